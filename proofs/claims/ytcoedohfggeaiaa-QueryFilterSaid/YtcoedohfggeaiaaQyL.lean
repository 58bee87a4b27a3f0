/-
  Layer 15, the developers' query: fitting: an iterator that tells those that fit, until it is left. Nothing is assumed but that the entries lie in memory, and that there are at most a thousand.
-/
import Derived.Test.YtcoedohfggeaiaaQyK
import Derived.Test.YtcoedohfggeaiaaQyB
import Derived.RangeFuncBox
import Derived.RangeFuncLeaves
import Derived.RangeFuncCalls
import Derived.RangeFuncWrites
import Derived.RangeFuncNested
import Derived.Shelf.Abstract
import Derived.WalkKit
import Derived.WalkMore
import Derived.OwnWalkIn
import Derived.TacticsInMore
import Derived.LoopNIn
import Derived.LoopIn
import Derived.Maps.AppendAt

namespace Go.Proofs.Ytcoedohfggeaiaa
open Go.RowKit Go.Shelf En Qy
set_option maxRecDepth 100000
attribute [local go_sem] Oper.semAt_some

/-- what a round leaves: memory below B, and the iterator's own Ask -/
def KQ (B ga : Nat) (qa : Qy.A) (X Y : World) : Prop := Below B X Y ∧ (BoxQ X ga qa → BoxQ Y ga qa)
theorem KQ.trans {B ga : Nat} {qa : Qy.A} {X Y Z : World} (h : KQ B ga qa X Y) (k : KQ B ga qa Y Z) : KQ B ga qa X Z := ⟨h.1.trans k.1, fun q => k.2 (h.2 q)⟩
theorem below_grownByQ {X Y : World} (h : Below X.heap.size X Y) : X.grownBy Y none := ⟨h.os, h.tape, h.output, h.size, fun k hk _ => h.block k hk⟩

set_option maxHeartbeats 8000000 in
theorem fit1_in (n : Nat) (hn : 1 ≤ n) (l gl ga : Nat) (A : Option Addr) (m cap : Nat) (ts : List Ent) (qa : Qy.A) (J Jx : List E → World → Prop) (w0 W : World) (hJ : AbidesFrom W.heap.size J)
    (hY : ∀ pre (x : E) W1, J pre W1 → pre.length < (those (ts.map Ent.e) qa).length → YieldAt Fence.wide (n - 1) Try.prog l #[itV (itemE x)] W1 fun e W' =>
      (e = .returned (.bool true) ∧ J (pre ++ [x]) W' ∧ KQ w0.heap.size ga qa W1 W') ∨ (e = .returned (.bool false) ∧ Jx (pre ++ [x]) W'))
    (h : Ents w0 A m cap ts) (hl : W.cell? ⟨gl, 0, none⟩ = some (.slice A m cap)) (hq : BoxQ W ga qa) (hW : Below w0.heap.size w0 W) (h0 : J [] W) :
    CallsIn Fence.wide n Try.prog 30 #[.func (.yield l) #[] #[], .pointer (some ⟨gl, 0, none⟩), .pointer (some ⟨ga, 0, none⟩)] W fun e W' => (∃ v, e = .returned v) ∧
      ((∃ ys, ys = those (ts.map Ent.e) qa ∧ J ys W') ∨ (∃ pre, (∃ r, pre ++ r = those (ts.map Ent.e) qa) ∧ Jx pre W')) := by
  obtain ⟨hln, hfew, hle, hcm, hlies, hsv⟩ := h
  unfold maxLen at hcm
  have HLI := Lib.hid hlies
  obtain ⟨M, hM⟩ : ∃ M, ts.map Ent.e = M := ⟨_, rfl⟩
  rw [hM] at hY ⊢
  have HML := Lib.hid (show M.length = m by rw [← hM, List.length_map, hln])
  have HN := Lib.hid hln
  have HM := Lib.hid hM
  have HJ := Lib.hid hJ
  have HY := Lib.hid hY
  have HW0 := Lib.hid h0
  have HQ0 := Lib.hid hq
  have HB0 := Lib.hid hW
  have HFS := Lib.hid (fun (t : Ent) (ht : t ∈ ts) (W : World) (hW : Below w0.heap.size w0 W) => fits15_any t.e t.A t.e.sv.length t.cap qa W rfl ((hsv t ht).below hW))
  have hf13 : Fence.wide.fn 13 := trivial
  clear hlies hsv hM hln hJ hY h0 hq hW
  refine callsIn_of_wp Try.func30 rfl trivial ?_ rfl
  simp only [Try.ntmps30, List.size_toArray, List.length_cons, List.length_nil, Nat.reduceAdd, Nat.reduceSub, Array.replicate_succ, Array.replicate_zero, List.push_toArray, List.append_toArray, List.nil_append, List.cons_append]
  gi_wp2
  gi_loopw [8] (fun i wr => ∃ k : Nat, i = .int .i64 k ∧ k ≤ m ∧ J (those (M.take k) qa) wr ∧ Below w0.heap.size w0 wr ∧ BoxQ wr ga qa) (fun i _ => m - (intOf i).toNat)
  case atStart => exact ⟨0, rfl, Nat.zero_le _, HW0.out, HB0.out, HQ0.out⟩
  case round =>
    obtain ⟨k, rfl, hk, hJk, hbr, hqr⟩ := hrel
    have HJK := Lib.hid hJk
    have HBR := Lib.hid hbr
    have HQR := Lib.hid hqr
    clear hJk hqr
    by_cases hlt : k < m
    · have hkM : k < M.length := by rw [HML.out]; exact hlt
      have hkt : k < ts.length := by rw [HN.out]; exact hlt
      obtain ⟨ad, rfl, hadb, hc⟩ := at_ent HLI.out k hkt
      have hte : ts[k].e = M[k] := by have := HM.out; subst this; simp
      have HT := Lib.hid (those_take M qa k hkM)
      have HPR := Lib.hid (those_prefix M qa (k + 1))
      rw [← hte] at HT
      have HF := Lib.hid (HFS.out ts[k] (List.getElem_mem hkt))
      obtain ⟨x0, x1, x2, x3, x4, x5, x6, x7, x8, x9, x10, x11, x12⟩ := ent_all (hc wr hbr)
      clear hc hte hbr
      obtain ⟨x, hx⟩ : ∃ x, ts[k] = x := ⟨_, rfl⟩
      rw [hx] at HT HF x0 x1 x2 x3 x4 x5 x6 x7 x8 x9 x10 x11 x12
      clear hx hkM hkt
      obtain ⟨ns, hns⟩ : ∃ ns, x.e.sv.length = ns := ⟨_, rfl⟩
      rw [hns] at HF x9
      clear hns
      have hbx := BoxE.new wr x.e (.slice x.A ns x.cap)
      have hb1 : Below wr.heap.size wr (wr.alloc (.cells (enA x.e (.slice x.A ns x.cap)) 29)) := (Below.refl _ _).alloc (Nat.le_refl _) _
      obtain ⟨y0, y1, y2, y3, y4, y5, y6, y7, y8, y9, y10, y11, y12⟩ := hbx.all
      obtain ⟨q0, q1, q2, q3, q4, q5, q6⟩ := (BoxQ.below HQR.out hb1).all
      have HB1 := Lib.hid (HBR.out.trans (hb1.mono HBR.out.size))
      have HJ1 := Lib.hid (HJ.out _ _ _ none HJK.out (below_grownByQ hb1) (fun r e => by cases e))
      have HQ1 := Lib.hid (BoxQ.below HQR.out hb1)
      have HX1 := Lib.hid (fun (W : World) (hW : Below (wr.alloc (.cells (enA x.e (.slice x.A ns x.cap)) 29)).heap.size (wr.alloc (.cells (enA x.e (.slice x.A ns x.cap)) 29)) W) => BoxE.all (BoxE.below hbx hW))
      have HYK := Lib.hid (fun (hf : fits x.e qa = true) (u : World) (h : J (those (M.take k) qa) u) => HY.out _ x.e u h (by
        have h1 := HPR.out.length_le
        rw [HT.out, if_pos hf, List.length_append, List.length_singleton] at h1
        omega))
      have HF1 := Lib.hid (HF.out _ HB1.out)
      obtain ⟨F, hF⟩ : ∃ F, fits x.e qa = F := ⟨_, rfl⟩
      rw [hF] at HT HYK HF1
      clear hbx hb1 HF hF
      unfold enA at *
      unfold askA at HF1
      simp only [itV, itemE] at HYK
      gi_wp2_with fail
      refine (callsIn_wide.2 HF1.out).mono ?_
      rintro e w2 ⟨rfl, d2⟩
      obtain ⟨z0, z1, z2, z3, z4, -⟩ := HX1.out w2 d2
      have HB2 := Lib.hid (HB1.out.trans (d2.mono HB1.out.size))
      have HJ2 := Lib.hid (HJ.out _ _ _ none HJ1.out (below_grownByQ d2) (fun r e => by cases e))
      have HQ2 := Lib.hid (BoxQ.below HQ1.out d2)
      clear x0 x1 x2 x3 x4 x5 x6 x7 x8 x9 x10 x11 x12 y0 y1 y2 y3 y4 y5 y6 y7 y8 y9 y10 y11 y12 q0 q1 q2 q3 q4 q5 q6 HX1 HQ1 HJ1 HB1 HF1 d2
      rcases F with _ | _
      · have HTE := Lib.hid (show those (M.take (k + 1)) qa = those (M.take k) qa by rw [HT.out, if_neg (by simp), List.append_nil])
        clear HT HYK
        gi_wp2
        refine ⟨fun f e => (by cases e), ?_⟩
        gi_wp2
        go_roundw
        case rel => exact ⟨k + 1, by go_num, by omega, by rw [HTE.out]; exact HJ2.out, HB2.out, HQ2.out⟩
        case measure => simp [intOf]; omega
      · have HTE := Lib.hid (show those (M.take (k + 1)) qa = those (M.take k) qa ++ [x.e] by rw [HT.out, if_pos rfl])
        have HPE := Lib.hid (show ∃ r, (those (M.take k) qa ++ [x.e]) ++ r = those M qa by rw [← HTE.out]; exact HPR.out)
        have HY2 := HYK.out rfl w2 HJ2.out
        clear HT HYK HPR
        gi_wp2
        obtain ⟨fn, tmps, assign, body, hy, hR⟩ := HY2
        rw [hy]
        gi_wp2
        refine hR.mono ?_
        rintro e W4 (⟨rfl, hJ4, hk4⟩ | ⟨rfl, hJx4⟩)
        · have HJ4 := Lib.hid hJ4
          have HK4 := Lib.hid hk4
          clear hJ4 hk4
          gi_wp2
          go_roundw
          case rel => exact ⟨k + 1, by go_num, by omega, by rw [HTE.out]; exact HJ4.out, HB2.out.trans HK4.out.1, HK4.out.2 HQ2.out⟩
          case measure => simp [intOf]; omega
        · have HJX := Lib.hid hJx4
          clear hJx4
          gi_wp2
          refine bodyPost_ret (results_none rfl _ _ _) rfl ?_
          exact ⟨⟨_, rfl⟩, .inr ⟨_, HPE.out, HJX.out⟩⟩
    · obtain rfl : k = m := by omega
      have hall : M.take k = M := List.take_of_length_le (by rw [HML.out]; omega)
      gi_wp2
      go_end0
      exact ⟨⟨_, rfl⟩, .inl ⟨_, by rw [hall], HJK.out⟩⟩

set_option maxHeartbeats 1000000 in
theorem fit_in (F : Fence) (n : Nat) (h23 : F.fn 20) (hro : F.round = none) (A : Option Addr) (m cap : Nat) (qa : Qy.A) (w : World) :
    CallsIn F n Try.prog 20 #[.slice A m cap, .agg (askA qa)] w fun e w' => e = .returned (.func (.func 30) #[] #[.pointer (some ⟨w.heap.size, 0, none⟩), .pointer (some ⟨w.heap.size + 1, 0, none⟩)]) ∧ w' = (w.alloc (.cells #[.slice A m cap] 22)).alloc (.cells (askA qa) 31) := by
  unfold askA
  refine callsIn_of_wp Try.func20 rfl h23 ?_ hro
  simp only [Try.ntmps20, List.size_toArray, List.length_cons, List.length_nil, Nat.reduceAdd, Nat.reduceSub, Array.replicate_succ, Array.replicate_zero, List.push_toArray, List.append_toArray, List.nil_append, List.cons_append]
  gi_wp2
  go_ret
  exact ⟨rfl, rfl⟩
theorem fit_stops (n : Nat) (hn : 1 ≤ n) (gl ga : Nat) (A : Option Addr) (m cap : Nat) (ts : List Ent) (qa : Qy.A) (w0 w : World) (h : Ents w0 A m cap ts) (hl : w.cell? ⟨gl, 0, none⟩ = some (.slice A m cap)) (hlt : gl < w.heap.size) (hq : BoxQ w ga qa) (hW : Below w0.heap.size w0 w) :
    SeqStopsK Fence.wide n Try.prog 30 #[.pointer (some ⟨gl, 0, none⟩), .pointer (some ⟨ga, 0, none⟩)] (fun x : E => #[itV (itemE x)]) (KQ w0.heap.size ga qa) (fun ys => ys = those (ts.map Ent.e) qa) (fun pre => ∃ r, pre ++ r = those (ts.map Ent.e) qa) (those (ts.map Ent.e) qa).length w := fun l J Jx W hb hJ _ hY h0 =>
  fit1_in n hn l gl ga A m cap ts qa J Jx w0 W hJ hY h ((hb.cell (p := ⟨gl, 0, none⟩) hlt).trans hl) (hq.below hb) (hW.trans (hb.mono hW.size)) h0
/-- the law's own book-keeping leaves it -/
theorem KQ.turn {B ga : Nat} {qa : Qy.A} {w : World} (hB : B ≤ w.heap.size) (W : World) (l : Nat) (o o' : Obj) (hl : w.heap.size ≤ l) (h : W.heap[l]? = some o) (hc : o.isCells = false) (hw : o.isWalk = false) : KQ B ga qa W (W.putObj l o') :=
  ⟨belowK_b hB W l o o' hl h hc hw, fun hq => (((grownBy_putObj' W l o').block ga hq.lt (fun e => by
    injection e with e
    subst e
    rw [show W.heap[ga]? = _ from hq] at h
    cases h; cases hc))).trans hq⟩
theorem askFrom (n B : Nat) {β : Type} (f : β → Qy.A) : OwnFrom n (fun s W => BoxQ W B (f s)) := fun s W W' row h hg hr => ((hg.block B h.lt (fun e => by
  obtain ⟨_, o, ho, hc⟩ := hr B e.symm
  rw [show W.heap[B]? = _ from h] at ho; cases ho; cases hc))).trans h
theorem boxFrom {β : Type} (n B : Nat) (t : TypeId) (f : β → Value) : OwnFrom n (fun s W => Boxed W B t (f s)) := fun s W W' row h hg hr => h.kept hg (fun e => by
  obtain ⟨_, o, ho, hc⟩ := hr B e.symm
  rw [show W.heap[B]? = _ from h] at ho; cases ho; cases hc)
theorem pureFrom {β : Type} (n : Nat) (f : β → Prop) : OwnFrom n (fun s (_ : World) => f s) := fun _ _ _ _ h _ _ => h
end Go.Proofs.Ytcoedohfggeaiaa
