/-
  Layer 7: dev.Flush: all that was written is kept, in whatever order the map tells it. Nothing is assumed but that fewer than 2^62 things were done.
-/
import Derived.Test.YtldecmodhppjpaaDvR

namespace Go.Proofs.Ytldecmodhppjpaa
open Go.RowKit Go.Maps
set_option maxRecDepth 100000

theorem Kb.congr {w : World} {g n : Nat} {K K' : Nat → List UInt8} (h : Kb w g n K) (e : ∀ i, i < n → K i = K' i) : Kb w g n K' := by
  obtain ⟨cs, h1, h2, h3⟩ := h
  exact ⟨cs, h1, h2, fun i hi => by rw [← e i hi]; exact h3 i hi⟩
theorem ranges_kept {H : Type} {P : Program} {k : TypeId} {R : Value → Option (DataW H × List MemPlace)} {w w' : World} {b r n cnt : Nat} {D : DataW H} {left : Lit → Bool} {S : List Nat} (h : w.ranges P k R b r n D left cnt) (hk : Kept S w w') (hb : b ∉ S) (hr : r ∉ S) : w'.ranges P k R b r n D left cnt := by
  have h1 := h.owns.lt
  have h2 := h.lt
  obtain ⟨es, clock, since, seen, c0, hb', F, hs, hD, hr', rest⟩ := h
  exact ⟨es, clock, since, seen, c0, (hk.block b h1 hb).trans hb', F, hs, hD, (hk.block r h2 hr).trans hr', rest⟩
theorem Kept.newer {S : List Nat} {a b c : World} (h : Kept S a b) {row : Option Nat} (k : b.grownBy c row) (hr : ∀ i, row = some i → i ∈ S ∨ a.heap.size ≤ i) : Kept S a c :=
  ⟨k.os.trans h.os, k.tape.trans h.tape, k.output.trans h.output, Nat.le_trans h.size k.size, fun i hi hn => (k.block i (Nat.lt_of_lt_of_le hi h.size) (fun e => by
    rcases hr i e.symm with h1 | h1
    · exact hn h1
    · omega)).trans (h.block i hi hn)⟩

theorem map_clear {W : World} {b n : Nat} {wr : Nat → Option (List UInt8)} (ty : TypeId) (h : W.ownsMap Try.prog 3 secElem b n (wD wr n)) :
    ∃ w', (Builtin.clear_ #[58] ty #[.map (some b)]).run Try.prog W = .ok (.tuple #[]) w' ∧ w'.ownsMap Try.prog 3 secElem b n (wD (fun _ => none) n) ∧ W.grownBy w' (some b) := by
  obtain ⟨es, clock, hb, F, _, _⟩ := h
  refine ⟨ChangeMaps.setBlock W b (.map #[] clock), ?_, ⟨#[], clock, ChangeMaps.heap_setBlock_same hb _, ⟨by simp, MapKept.stamped_empty clock, by simp⟩, Nat.zero_le _, by rw [wD_empty]; rfl⟩, ⟨rfl, rfl, rfl, by simp [ChangeMaps.setBlock], fun i _ hi => ChangeMaps.heap_setBlock_other hb _ (fun e => hi (by rw [e]))⟩⟩
  simp [Builtin.clear_, run_underlying Try.underlying58, MapKept.run_getObj_map hb, MapKept.run_setObj_map _ hb, Result.andThen, ChangeMaps.setBlock]
theorem wpList_clear {w : World} {ops : Array Oper} {rest : List Oper} {o : Oper} {a : Act} {Q : Exit → Act → World → Prop} (hg : o.guard = none) (m : Operand) (ho : o.op = .call { callee := .builtin .clear, args := #[m], argTypes := #[58] }) (b n : Nat) (wr : Nat → Option (List UInt8)) (hm : a.eval m = .map (some b)) (h : w.ownsMap Try.prog 3 secElem b n (wD wr n))
    (hK : ∀ w', w'.ownsMap Try.prog 3 secElem b n (wD (fun _ => none) n) → w.grownBy w' (some b) → wpList Try.prog ops Q rest (a.put o.dst (.tuple #[])) w') : wpList Try.prog ops Q (o :: rest) a w := by
  refine wpList_plain hg fun K hK' => ?_
  obtain ⟨w', hrun, r1, r2⟩ := map_clear o.type h
  unfold Oper.wp
  simp [execOp, ho, resolve, invoke, builtin, hm, hrun, Result.andThen]
  exact hK' _ _ (hK _ r1 r2)

/-- how far the sectors are, by what is still to come -/
def fluK (d : Plain.Dv) (left : Lit → Bool) (j : Nat) : List UInt8 := if left (.int .i64 (j : Int)) = true then d.kept j else d.sec j
theorem fluK_start (d : Plain.Dv) (j : Nat) (hj : j < d.n) : fluK d (has (wD d.wr d.n)) j = d.kept j := by
  unfold fluK
  rw [wD_hasB _ _ _ hj]
  split
  · rfl
  · rename_i h
    unfold Plain.Dv.sec
    cases hw : d.wr j with
    | none => rfl
    | some s => rw [hw] at h; simp at h
theorem fluK_end (d : Plain.Dv) (left : Lit → Bool) (h : ∀ k, left k = false) (j : Nat) : fluK d left j = d.sec j := by
  unfold fluK; rw [h]; rfl
theorem fluK_step (d : Plain.Dv) (left : Lit → Bool) (i : Nat) (s : List UInt8) (hs : d.wr i = some s) (j : Nat) : fluK d (fun z => left z && !z.sameKey (.int .i64 (i : Int))) j = Plain.upd (fluK d left) i s j := by
  unfold fluK Plain.upd
  by_cases e : j = i
  · subst e
    have hk : (Lit.int .i64 (j : Int)).sameKey (.int .i64 (j : Int)) = true := WideAt.sameKey_self trivial
    simp [Plain.Dv.sec, hs, hk]
  · have hk : (Lit.int .i64 (j : Int)).sameKey (.int .i64 (i : Int)) = false := sameKey_ne (by intro h; injection h with _ h; omega)
    simp [e, hk]
theorem fluK_length (d : Plain.Dv) (h : d.Ok) (left : Lit → Bool) (j : Nat) (hj : j < d.n) : (fluK d left j).length = 64 := by
  unfold fluK; split
  · exact h.kept j hj
  · exact d.sec_length h j hj

set_option maxHeartbeats 4000000 in
theorem flush_any (w : World) (g : Nat) (d : Plain.Dv) (hdone : d.done < 4611686018427387904) (h : IsDev w g d) :
    Calls Try.prog 15 #[.pointer (some ⟨g + 2, 0, none⟩)] w fun e w' => e = .returned (.int .i64 (d.flush.2 : Int)) ∧ IsDev w' g d.flush.1 ∧ Kept [g, g + 1, g + 2] w w' := by
  have hok := d.flush_ok h.ok
  have HFE := Lib.hid (show d.flush = if d.begin.2 ≠ 0 then d.begin else ({ d.begin.1 with kept := d.sec, wr := fun _ => none }, 0) from rfl)
  have HOK := Lib.hid hok
  have HO := Lib.hid h.ok
  have HB := Lib.hid (begin_any w g d h hdone)
  have hfew := h.ok.few
  obtain ⟨e1, e2, e3, -⟩ := d.begin_same
  have HS1 := Lib.hid (And.intro e1 (And.intro e2 e3))
  have herr := d.begin_err
  clear hok e1 e2 e3 h
  go_enter Try.func15, Try.ntmps15
  go_wp2_with fail
  refine HB.out.mono ?_
  rintro e w1 ⟨rfl, hd1, k1⟩
  generalize he : d.begin.2 = er at *
  rcases herr with h0 | h0
  · subst h0
    have HK1 := Lib.hid k1
    have c1 : w1.cell? ⟨g + 2, 1, none⟩ = some (.map (some (g + 1))) := hd1.box.cell 1
    have hlt1 := hd1.lt
    have hkp := hd1.kept
    have hmp := hd1.map
    have hbx := hd1.box
    rw [HS1.out.1, HS1.out.2.1] at hkp
    rw [HS1.out.1, HS1.out.2.2] at hmp
    rw [HS1.out.1] at hbx
    have HD1 := Lib.hid hd1
    have HBX := Lib.hid hbx
    have HKP := Lib.hid hkp
    obtain ⟨D, hD⟩ : ∃ D, wD d.wr d.n = D := ⟨_, rfl⟩
    rw [hD] at hmp
    have HDD := Lib.hid hD
    clear hd1 hkp k1 hD hbx
    go_wp2_with (first
      | (at_range; refine wpList_range_own _ rfl _ 58 rfl 3 66 keyedI Try.underlying58 secElem (g + 1) d.n D rfl hmp ?_; intro w0 hrg0 hg0 hs0)
      | go_in)
    go_frame
    clear hs0
    go_loopw [4] (fun _ wr => ∃ (left : Lit → Bool) (cnt : Nat), wr.ranges Try.prog 3 secElem (g + 1) w1.heap.size d.n D left cnt ∧ Kb wr g d.n (fluK d left) ∧ Kept [g] w1 wr) (fun _ wr => wr.rangeLeft (g + 1) w1.heap.size)
    case atStart =>
      refine ⟨_, _, hrg0, ?_, (Kept.refl _ _).newer hg0 (fun i e => by cases e)⟩
      rw [← HDD.out]
      exact (HKP.out.block (hg0.block g (by omega) (by simp))).congr fun i hi => (fluK_start d i hi).symm
    case round =>
      obtain ⟨left, cnt, hrg, hkb, hkr⟩ := hrel
      have HRG := Lib.hid hrg
      have HKB := Lib.hid hkb
      have HKR := Lib.hid hkr
      have hsz := hkr.size
      clear hkb hkr
      go_wp2_with (first
        | (at_next; refine wpList_next_ranges _ rfl _ rfl 3 keyedI secElem (Value.int .i64) secV (fun key kl hk => by obtain ⟨x, hx, _⟩ := Maps.keyOf_i64 Try.underlying3 hk; exact ⟨x, hx⟩) (fun v y hv => by obtain ⟨c, _, hc, _⟩ := secElem_inv hv; exact ⟨c, hc⟩) (g + 1) w1.heap.size d.n _ _ _ rfl hrg ?_ ?_)
        | go_in)
      · intro hc0 hl0
        have HL0 := Lib.hid hl0
        have c1r : wr.cell? ⟨g + 2, 1, none⟩ = some (.map (some (g + 1))) := (World.cell?_of_block (HKR.out.block (g + 2) (by omega) (by simp))).trans c1
        have hmr : wr.ownsMap Try.prog 3 secElem (g + 1) d.n (wD d.wr d.n) := by rw [HDD.out]; exact HRG.out.owns
        clear hl0 hc0 hrg
        go_wp2_with (refine wpList_clear rfl _ rfl (g + 1) d.n d.wr rfl hmr ?_; intro w5 hm5 hg5)
        go_returns
        have hr5 := HKR.out
        have e4 : d.flush = ({ d.begin.1 with kept := d.sec, wr := fun _ => none }, 0) := by rw [HFE.out, if_neg (by simp)]
        have ok2 := HOK.out
        rw [e4] at ok2 ⊢
        refine ⟨rfl, ⟨ok2, ?_, ?_, ?_⟩, ?_⟩
        · show Blk w5 (g + 2) _ _
          have hb := (hr5.blk HD1.out.box (by simp))
          exact (hg5.block (g + 2) (by omega) (by simp)).trans hb
        · show Kb w5 g d.begin.1.n d.sec
          rw [HS1.out.1]
          exact (HKB.out.block (hg5.block g (by omega) (by simp))).congr fun i _ => fluK_end d left HL0.out i
        · show w5.ownsMap _ _ _ _ d.begin.1.n (wD (fun _ => none) d.begin.1.n)
          rw [HS1.out.1]
          exact hm5
        · refine ((HK1.out.mono (by simp)).trans (hr5.mono (by simp))).grown hg5 (by simp)
      · intro x c kl yd yp w3 cnt3 hkey hlk hv hat hrg3 hlt3 hg3 hs3 hen
        obtain ⟨s, hs, hcs, hyy⟩ := secElem_inv hv
        obtain rfl := secV_inj hcs
        obtain ⟨rfl, rfl⟩ := Prod.mk.inj hyy
        have hhas : has D kl = true := has_true_of_atKey hat
        rw [← HDD.out, wD_has] at hhas
        obtain ⟨i, t, hin, hwi, rfl⟩ := hhas
        obtain ⟨x', hx', hxx, _⟩ := Maps.keyOf_i64 Try.underlying3 hkey
        injection hx' with _ hx'
        injection hxx with _ hxx
        obtain rfl : x = (i : Int) := by omega
        have hct : c = t := by
          have := hat (.held [])
          rw [← HDD.out, wD_at hin hwi] at this
          injection this with this
          exact this.symm
        subst hct
        have HRG3 := Lib.hid hrg3
        have HG3 := Lib.hid hg3
        have HLT := Lib.hid hlt3
        have HWI := Lib.hid hwi
        have HCL := Lib.hid hs
        have hk3 : Kept [w1.heap.size] wr w3 := (Kept.refl _ _).grown hg3 (by simp)
        have HK3 := Lib.hid hk3
        have hs3' := hk3.size
        clear hrg3 hg3 hs3 hlt3 hat hv hkey hlk hx' hxx hwi hs hk3 hrg hcs hyy
        go_wp2_with (first
          | (refine wpList_allocSec rfl rfl ?_; intro ZS w2 hZ hb2 hB2 hz2; clear hz2)
          | (refine wpList_storeSec rfl _ _ rfl _ rfl c HCL.out rfl _ hZ hb2 ?_; intro w4 hb4 hk4; clear hb2))
        have hB4 := hk4.below hB2 (by simp)
        have hs4 := hB4.size
        have HB4 := Lib.hid hB4
        have hkk : Kept [g, w1.heap.size] wr w4 := (HK3.out.mono (by simp)).trans (Kept.of hB4 _)
        have HKK := Lib.hid hkk
        have hbx4 : Blk w4 (g + 2) #[.slice (some ⟨g, 0, none⟩) d.n d.n, .map (some (g + 1)), .bool d.begin.1.down, .bool d.begin.1.cut, .int .i64 (d.begin.1.left : Int), .int .i64 (d.begin.1.done : Int)] 60 := (hkk.block (g + 2) (by omega) (by simp; omega)).trans ((HKR.out.block (g + 2) (by omega) (by simp)).trans HBX.out)
        have HC0 := Lib.hid (fun (W : World) (hW : Below w4.heap.size w4 W) => show (Instr.loadAt 57 (.pointer (some ⟨g + 2, 0, none⟩))).run Try.prog W = .ok (.slice (some ⟨g, 0, none⟩) d.n d.n) W from by
          have c1 : W.cell? ⟨g + 2, 0, none⟩ = some (.slice (some ⟨g, 0, none⟩) d.n d.n) := (hW.cell (p := ⟨g + 2, 0, none⟩) (by simp; omega)).trans (hbx4.cell 0)
          go_simp)
        obtain ⟨q, hq⟩ : ∃ q, w3.heap.size = q := ⟨_, rfl⟩
        rw [hq] at hb4
        have HC2 := Lib.hid (fun (W : World) (hW : Below w4.heap.size w4 W) => run_loadSec W q 0 c HCL.out (fun j v hv => by
          have := (Blk.lt hb4)
          rw [Nat.zero_add, World.cell?_of_block (hW.block q this), hb4.cell]
          simpa using hv))
        have hkb4 : Kb w4 g d.n (fluK d left) := HKB.out.block ((HB4.out.block g (by omega)).trans (HK3.out.block g (by omega) (by simp; omega)))
        have HKB4 := Lib.hid hkb4
        have hrg4 : w4.ranges Try.prog 3 secElem (g + 1) w1.heap.size d.n D (fun z => left z && !z.sameKey (.int .i64 (i : Int))) cnt3 := ranges_kept HRG3.out (Kept.of hB4 []) (by simp) (by simp)
        have HRG4 := Lib.hid hrg4
        clear hB4 hk4 hB2 hkk hbx4 hb4 hkb4 hrg4
        rw [hq]
        have hbd : Below w4.heap.size w4 w4.drew := (Below.refl _ _).drew
        generalize hnn : d.n = n at *
        refine wp_late (by kernel_rfl) 32 [(21, [0]), (22, [21]), (23, [22]), (24, [23]), (25, [4]), (26, [5]), (27, [24, 25]), (1007, [27, 26])]
          [Fact.is (.pointer (some ⟨g + 2, 0, none⟩)), Fact.is (.pointer (some ⟨g + 2, 0, none⟩)), Fact.is (.pointer (some ⟨g + 2, 0, none⟩)), Fact.is (.slice (some ⟨g, 0, none⟩) n n), Fact.is (.int .i64 (i : Int)), Fact.is (secV c), Fact.is (.pointer (some ⟨g, i * 64, none⟩)), default]
          [1, 1, 1, 1, 1, 1, 1, 2] [7] [] [21, 22, 23, 24, 25, 26, 27] ((fun _ _ w' => ∃ W, Below w4.heap.size w4 W ∧ w' = W.setCells g (i * 64) (cells c)))
          (by kernel_rfl) (by kernel_rfl) rfl rfl ⟨?s0, ?s1, ?s2, ?s3, ?s4, ?s5, ?s6, trivial⟩ ?late ?fin
        case s0 =>
          intro ρ W hb hc hf hr
          obtain ⟨r0, -⟩ := hr
          have e0 : ρ (.tmp 0) = .pointer (some ⟨g + 2, 0, none⟩) := r0
          clear r0
          refine under_none rfl ?_
          exact ⟨e0, Below.refl _ _⟩
        case s1 =>
          intro ρ W hb hc hf hr
          obtain ⟨r21, -⟩ := hr
          have e21 : ρ (.tmp 21) = .pointer (some ⟨g + 2, 0, none⟩) := r21
          clear r21
          refine under_none rfl ?_
          simp [execOp, e21, go_sem, softUpon, Fact.is, Below.refl]
        case s2 =>
          intro ρ W hb hc hf hr
          obtain ⟨r22, -⟩ := hr
          have e22 : ρ (.tmp 22) = .pointer (some ⟨g + 2, 0, none⟩) := r22
          clear r22
          refine under_none rfl ?_
          exact soft_field e22 rfl (fun W => by go_simp)
        case s3 =>
          intro ρ W hb hc hf hr
          obtain ⟨r23, -⟩ := hr
          have e23 : ρ (.tmp 23) = .pointer (some ⟨g + 2, 0, none⟩) := r23
          clear r23
          refine under_none rfl ?_
          exact soft_load e23 (HC0.out W (hbd.trans (hb.mono (by simp)))) rfl
        case s4 =>
          intro ρ W hb hc hf hr
          obtain ⟨r4, -⟩ := hr
          have e4 : ρ (.tmp 4) = .int .i64 (i : Int) := r4
          clear r4
          refine under_none rfl ?_
          exact ⟨e4, Below.refl _ _⟩
        case s5 =>
          intro ρ W hb hc hf hr
          obtain ⟨r5, -⟩ := hr
          have e5 : ρ (.tmp 5) = .pointer (some ⟨q, 0, none⟩) := r5
          clear r5
          refine under_none rfl ?_
          exact soft_load e5 (HC2.out W (hbd.trans (hb.mono (by simp)))) rfl
        case s6 =>
          intro ρ W hb hc hf hr
          obtain ⟨r24, r25, -⟩ := hr
          have e24 : ρ (.tmp 24) = .slice (some ⟨g, 0, none⟩) n n := r24
          clear r24
          have e25 : ρ (.tmp 25) = .int .i64 (i : Int) := r25
          clear r25
          refine under_none rfl ?_
          exact soft_index e24 e25 (run_indexSec W g n i hin) rfl
        case late =>
          intro p j o hj ho a W hsz h0 h1 hfr hou
          match p, hj with
          | 0, hj =>
            obtain rfl : 7 = j := Option.some.inj hj
            obtain rfl := Option.some.inj ho
            clear hj ho
            obtain ⟨hb, hhard⟩ := h0 rfl
            have e27 : a.eval (.tmp 27) = .pointer (some ⟨g, i * 64, none⟩) := hhard 27 6 rfl rfl
            have e26 : a.eval (.tmp 26) = secV c := hhard 26 5 rfl rfl
            clear h0 h1 hhard hfr hou
            refine late_store (x := .tmp 27) (y := .tmp 26) (w' := W.setCells g (i * 64) (cells c)) rfl (by rw [e27, e26]; exact run_storeSec W g (i * 64) c HCL.out ((HKB4.out.block ((hbd.trans (hb.mono (by simp))).block g (by omega))).there hin)) ⟨undef, rfl, W, hbd.trans (hb.mono (by simp)), rfl⟩
          | q + 1, hj => cases hj
        case fin =>
          intro a w5 ha hP
          obtain ⟨W, hW, rfl⟩ := hP
          have HW := Lib.hid hW
          clear hW
          simp only [List.foldl_cons, List.foldl_nil] at ha
          generalize a.tmps.getD 21 undef = v21 at ha
          generalize a.tmps.getD 22 undef = v22 at ha
          generalize a.tmps.getD 23 undef = v23 at ha
          generalize a.tmps.getD 24 undef = v24 at ha
          generalize a.tmps.getD 25 undef = v25 at ha
          generalize a.tmps.getD 26 undef = v26 at ha
          generalize a.tmps.getD 27 undef = v27 at ha
          simp only [Act.put, List.setIfInBounds_toArray, List.set_cons_succ, List.set_cons_zero] at ha
          subst ha
          have hk5 : Kept [g] w1 (W.setCells g (i * 64) (cells c)) := (HKR.out.new (HKK.out.trans (Kept.of HW.out _)) (by intro i hi; simp at hi ⊢; omega)).setCells (g := g) (by simp) _ _
          have hkb5 : Kb (W.setCells g (i * 64) (cells c)) g n (Plain.upd (fluK d left) i c) := (HKB4.out.block (HW.out.block g (by omega))).store (fun j hj => fluK_length d HO.out left j (by omega)) hin c HCL.out
          have hrg5 := ranges_kept HRG4.out ((Kept.of HW.out [g]).setCells (g := g) (by simp) (i * 64) (cells c)) (by simp) (by simp; omega)
          have HK5 := Lib.hid hk5
          have HKB5 := Lib.hid hkb5
          have HRG5 := Lib.hid hrg5
          clear hk5 hkb5 hrg5
          go_wp2
          go_roundw
          case rel =>
            subst hnn
            refine ⟨_, _, HRG5.out, HKB5.out.congr fun j _ => (fluK_step d left i c HWI.out j).symm, HK5.out⟩
          case measure =>
            rw [HRG5.out.left_eq, HRG.out.left_eq]; exact HLT.out
  · subst h0
    have HD1 := Lib.hid hd1
    clear hd1
    go_wp2
    go_returns
    have e4 : d.flush = d.begin := by rw [HFE.out, if_pos (by omega)]
    rw [e4, he]
    exact ⟨rfl, HD1.out, k1.mono (by simp)⟩
end Go.Proofs.Ytldecmodhppjpaa

