/-
  DvF: Layer 7: dev.Flush: all that was written is kept, in whatever order the map tells it. Nothing is assumed but that fewer than 2^62 things were done.
  DvT0: Layer 7: numbers and bits as a sector's bits turn. Nothing is assumed.
  DvT: Layer 7: dev's turn: the bits of a sector that turn, and no other ones. Nothing is assumed.
-/
import Derived.Test.YtehnhjnkbclnlaaGreatDoorDvW
import Derived.Laws.BitsAllLaws

namespace Go.Proofs.YtehnhjnkbclnlaaGreatDoor
open Go.RowKit Go.Maps
set_option maxRecDepth 100000

theorem Kb.congr {w : World} {g n : Nat} {K K' : Nat → List UInt8} (h : Kb w g n K) (e : ∀ i, i < n → K i = K' i) : Kb w g n K' := by
  obtain ⟨cs, h1, h2, h3⟩ := h
  exact ⟨cs, h1, h2, fun i hi => by rw [← e i hi]; exact h3 i hi⟩
theorem ranges_kept {H : Type} {P : Program} {k : TypeId} {R : Value → Option (DataW H × List MemPlace)} {w w' : World} {b r n cnt : Nat} {D : DataW H} {left : Lit → Bool} {S : List Nat} (h : w.ranges P k R b r n D left cnt) (hk : Kept S w w') (hb : b ∉ S) (hr : r ∉ S) : w'.ranges P k R b r n D left cnt := by
  have h1 := h.owns.lt
  have h2 := h.lt
  obtain ⟨es, clock, since, seen, c0, hb', F, hs, hD, hr', rest⟩ := h
  exact ⟨es, clock, since, seen, c0, (hk.block b h1 hb).trans hb', F, hs, hD, (hk.block r h2 hr).trans hr', rest⟩
theorem Kept.newer {S : List Nat} {a b c : World} (h : Kept S a b) {row : Option Nat} (k : b.grownBy c row) (hr : ∀ i, row = some i → i ∈ S ∨ a.heap.size ≤ i) : Kept S a c :=
  ⟨k.os.trans h.os, k.tape.trans h.tape, k.output.trans h.output, Nat.le_trans h.size k.size, fun i hi hn => (k.block i (Nat.lt_of_lt_of_le hi h.size) (fun e => by
    rcases hr i e.symm with h1 | h1
    · exact hn h1
    · omega)).trans (h.block i hi hn)⟩

theorem map_clear {W : World} {b n : Nat} {wr : Nat → Option (List UInt8)} (ty : TypeId) (h : W.ownsMap Tryz.prog 3 secElem b n (wD wr n)) :
    ∃ w', (Builtin.clear_ #[58] ty #[.map (some b)]).run Tryz.prog W = .ok (.tuple #[]) w' ∧ w'.ownsMap Tryz.prog 3 secElem b n (wD (fun _ => none) n) ∧ W.grownBy w' (some b) := by
  obtain ⟨es, clock, hb, F, _, _⟩ := h
  refine ⟨ChangeMaps.setBlock W b (.map #[] clock), ?_, ⟨#[], clock, ChangeMaps.heap_setBlock_same hb _, ⟨by simp, MapKept.stamped_empty clock, by simp⟩, Nat.zero_le _, by rw [wD_empty]; rfl⟩, ⟨rfl, rfl, rfl, by simp [ChangeMaps.setBlock], fun i _ hi => ChangeMaps.heap_setBlock_other hb _ (fun e => hi (by rw [e]))⟩⟩
  simp [Builtin.clear_, run_underlying Tryz.underlying58, MapKept.run_getObj_map hb, MapKept.run_setObj_map _ hb, Result.andThen, ChangeMaps.setBlock]
theorem wpList_clear {w : World} {ops : Array Oper} {rest : List Oper} {o : Oper} {a : Act} {Q : Exit → Act → World → Prop} (hg : o.guard = none) (m : Operand) (ho : o.op = .call { callee := .builtin .clear, args := #[m], argTypes := #[58] }) (b n : Nat) (wr : Nat → Option (List UInt8)) (hm : a.eval m = .map (some b)) (h : w.ownsMap Tryz.prog 3 secElem b n (wD wr n))
    (hK : ∀ w', w'.ownsMap Tryz.prog 3 secElem b n (wD (fun _ => none) n) → w.grownBy w' (some b) → wpList Tryz.prog ops Q rest (a.put o.dst (.tuple #[])) w') : wpList Tryz.prog ops Q (o :: rest) a w := by
  refine wpList_plain hg fun K hK' => ?_
  obtain ⟨w', hrun, r1, r2⟩ := map_clear o.type h
  unfold Oper.wp
  simp [execOp, ho, resolve, invoke, builtin, hm, hrun, Result.andThen]
  exact hK' _ _ (hK _ r1 r2)

/-- how far the sectors are, by what is still to come -/
def fluK (d : Plain.Dv) (left : Lit → Bool) (j : Nat) : List UInt8 := if left (.int .i64 (j : Int)) = true then d.kept j else d.sec j
theorem fluK_start (d : Plain.Dv) (j : Nat) (hj : j < d.n) : fluK d (has (wD d.wr d.n)) j = d.kept j := by
  unfold fluK
  rw [wD_hasB _ _ _ hj]
  split
  · rfl
  · rename_i h
    unfold Plain.Dv.sec
    cases hw : d.wr j with
    | none => rfl
    | some s => rw [hw] at h; simp at h
theorem fluK_end (d : Plain.Dv) (left : Lit → Bool) (h : ∀ k, left k = false) (j : Nat) : fluK d left j = d.sec j := by
  unfold fluK; rw [h]; rfl
theorem fluK_step (d : Plain.Dv) (left : Lit → Bool) (i : Nat) (s : List UInt8) (hs : d.wr i = some s) (j : Nat) : fluK d (fun z => left z && !z.sameKey (.int .i64 (i : Int))) j = Plain.upd (fluK d left) i s j := by
  unfold fluK Plain.upd
  by_cases e : j = i
  · subst e
    have hk : (Lit.int .i64 (j : Int)).sameKey (.int .i64 (j : Int)) = true := WideAt.sameKey_self trivial
    simp [Plain.Dv.sec, hs, hk]
  · have hk : (Lit.int .i64 (j : Int)).sameKey (.int .i64 (i : Int)) = false := sameKey_ne (by intro h; injection h with _ h; omega)
    simp [e, hk]
theorem fluK_length (d : Plain.Dv) (h : d.Ok) (left : Lit → Bool) (j : Nat) (hj : j < d.n) : (fluK d left j).length = 64 := by
  unfold fluK; split
  · exact h.kept j hj
  · exact d.sec_length h j hj

set_option maxHeartbeats 4000000 in
theorem flush_any (w : World) (g : Nat) (d : Plain.Dv) (hdone : d.done < 4611686018427387904) (h : IsDev w g d) :
    Calls Tryz.prog 32 #[.pointer (some ⟨g + 2, 0, none⟩)] w fun e w' => e = .returned (.int .i64 (d.flush.2 : Int)) ∧ IsDev w' g d.flush.1 ∧ Kept [g, g + 1, g + 2] w w' := by
  have hok := d.flush_ok h.ok
  have HFE := Lib.hid (show d.flush = if d.begin.2 ≠ 0 then d.begin else ({ d.begin.1 with kept := d.sec, wr := fun _ => none }, 0) from rfl)
  have HOK := Lib.hid hok
  have HO := Lib.hid h.ok
  have HB := Lib.hid (begin_any w g d h hdone)
  have hfew := h.ok.few
  obtain ⟨e1, e2, e3, -⟩ := d.begin_same
  have HS1 := Lib.hid (And.intro e1 (And.intro e2 e3))
  have herr := d.begin_err
  clear hok e1 e2 e3 h
  go_enter Tryz.func32, Tryz.ntmps32
  go_wp2_with fail
  refine HB.out.mono ?_
  rintro e w1 ⟨rfl, hd1, k1⟩
  generalize he : d.begin.2 = er at *
  rcases herr with h0 | h0
  · subst h0
    have HK1 := Lib.hid k1
    have c1 : w1.cell? ⟨g + 2, 1, none⟩ = some (.map (some (g + 1))) := hd1.box.cell 1
    have hlt1 := hd1.lt
    have hkp := hd1.kept
    have hmp := hd1.map
    have hbx := hd1.box
    rw [HS1.out.1, HS1.out.2.1] at hkp
    rw [HS1.out.1, HS1.out.2.2] at hmp
    rw [HS1.out.1] at hbx
    have HD1 := Lib.hid hd1
    have HBX := Lib.hid hbx
    have HKP := Lib.hid hkp
    obtain ⟨D, hD⟩ : ∃ D, wD d.wr d.n = D := ⟨_, rfl⟩
    rw [hD] at hmp
    have HDD := Lib.hid hD
    clear hd1 hkp k1 hD hbx
    go_wp2_with (first
      | (at_range; refine wpList_range_own _ rfl _ 58 rfl 3 69 keyedI Tryz.underlying58 secElem (g + 1) d.n D rfl hmp ?_; intro w0 hrg0 hg0 hs0)
      | go_in)
    go_frame
    clear hs0
    go_loopw [4] (fun _ wr => ∃ (left : Lit → Bool) (cnt : Nat), wr.ranges Tryz.prog 3 secElem (g + 1) w1.heap.size d.n D left cnt ∧ Kb wr g d.n (fluK d left) ∧ Kept [g] w1 wr) (fun _ wr => wr.rangeLeft (g + 1) w1.heap.size)
    case atStart =>
      refine ⟨_, _, hrg0, ?_, (Kept.refl _ _).newer hg0 (fun i e => by cases e)⟩
      rw [← HDD.out]
      exact (HKP.out.block (hg0.block g (by omega) (by simp))).congr fun i hi => (fluK_start d i hi).symm
    case round =>
      obtain ⟨left, cnt, hrg, hkb, hkr⟩ := hrel
      have HRG := Lib.hid hrg
      have HKB := Lib.hid hkb
      have HKR := Lib.hid hkr
      have hsz := hkr.size
      clear hkb hkr
      go_wp2_with (first
        | (at_next; refine wpList_next_ranges _ rfl _ rfl 3 keyedI secElem (Value.int .i64) secV (fun key kl hk => by obtain ⟨x, hx, _⟩ := Maps.keyOf_i64 Tryz.underlying3 hk; exact ⟨x, hx⟩) (fun v y hv => by obtain ⟨c, _, hc, _⟩ := secElem_inv hv; exact ⟨c, hc⟩) (g + 1) w1.heap.size d.n _ _ _ rfl hrg ?_ ?_)
        | go_in)
      · intro hc0 hl0
        have HL0 := Lib.hid hl0
        have c1r : wr.cell? ⟨g + 2, 1, none⟩ = some (.map (some (g + 1))) := (World.cell?_of_block (HKR.out.block (g + 2) (by omega) (by simp))).trans c1
        have hmr : wr.ownsMap Tryz.prog 3 secElem (g + 1) d.n (wD d.wr d.n) := by rw [HDD.out]; exact HRG.out.owns
        clear hl0 hc0 hrg
        go_wp2_with (refine wpList_clear rfl _ rfl (g + 1) d.n d.wr rfl hmr ?_; intro w5 hm5 hg5)
        go_returns
        have hr5 := HKR.out
        have e4 : d.flush = ({ d.begin.1 with kept := d.sec, wr := fun _ => none }, 0) := by rw [HFE.out, if_neg (by simp)]
        have ok2 := HOK.out
        rw [e4] at ok2 ⊢
        refine ⟨rfl, ⟨ok2, ?_, ?_, ?_⟩, ?_⟩
        · show Blk w5 (g + 2) _ _
          have hb := (hr5.blk HD1.out.box (by simp))
          exact (hg5.block (g + 2) (by omega) (by simp)).trans hb
        · show Kb w5 g d.begin.1.n d.sec
          rw [HS1.out.1]
          exact (HKB.out.block (hg5.block g (by omega) (by simp))).congr fun i _ => fluK_end d left HL0.out i
        · show w5.ownsMap _ _ _ _ d.begin.1.n (wD (fun _ => none) d.begin.1.n)
          rw [HS1.out.1]
          exact hm5
        · refine ((HK1.out.mono (by simp)).trans (hr5.mono (by simp))).grown hg5 (by simp)
      · intro x c kl yd yp w3 cnt3 hkey hlk hv hat hrg3 hlt3 hg3 hs3 hen
        obtain ⟨s, hs, hcs, hyy⟩ := secElem_inv hv
        obtain rfl := secV_inj hcs
        obtain ⟨rfl, rfl⟩ := Prod.mk.inj hyy
        have hhas : has D kl = true := has_true_of_atKey hat
        rw [← HDD.out, wD_has] at hhas
        obtain ⟨i, t, hin, hwi, rfl⟩ := hhas
        obtain ⟨x', hx', hxx, _⟩ := Maps.keyOf_i64 Tryz.underlying3 hkey
        injection hx' with _ hx'
        injection hxx with _ hxx
        obtain rfl : x = (i : Int) := by omega
        have hct : c = t := by
          have := hat (.held [])
          rw [← HDD.out, wD_at hin hwi] at this
          injection this with this
          exact this.symm
        subst hct
        have HRG3 := Lib.hid hrg3
        have HG3 := Lib.hid hg3
        have HLT := Lib.hid hlt3
        have HWI := Lib.hid hwi
        have HCL := Lib.hid hs
        have hk3 : Kept [w1.heap.size] wr w3 := (Kept.refl _ _).grown hg3 (by simp)
        have HK3 := Lib.hid hk3
        have hs3' := hk3.size
        clear hrg3 hg3 hs3 hlt3 hat hv hkey hlk hx' hxx hwi hs hk3 hrg hcs hyy
        go_wp2_with (first
          | (refine wpList_allocSec rfl rfl ?_; intro ZS w2 hZ hb2 hB2 hz2; clear hz2)
          | (refine wpList_storeSec rfl _ _ rfl _ rfl c HCL.out rfl _ hZ hb2 ?_; intro w4 hb4 hk4; clear hb2))
        have hB4 := hk4.below hB2 (by simp)
        have hs4 := hB4.size
        have HB4 := Lib.hid hB4
        have hkk : Kept [g, w1.heap.size] wr w4 := (HK3.out.mono (by simp)).trans (Kept.of hB4 _)
        have HKK := Lib.hid hkk
        have hbx4 : Blk w4 (g + 2) #[.slice (some ⟨g, 0, none⟩) d.n d.n, .map (some (g + 1)), .bool d.begin.1.down, .bool d.begin.1.cut, .int .i64 (d.begin.1.left : Int), .int .i64 (d.begin.1.done : Int)] 60 := (hkk.block (g + 2) (by omega) (by simp; omega)).trans ((HKR.out.block (g + 2) (by omega) (by simp)).trans HBX.out)
        have HC0 := Lib.hid (fun (W : World) (hW : Below w4.heap.size w4 W) => show (Instr.loadAt 57 (.pointer (some ⟨g + 2, 0, none⟩))).run Tryz.prog W = .ok (.slice (some ⟨g, 0, none⟩) d.n d.n) W from by
          have c1 : W.cell? ⟨g + 2, 0, none⟩ = some (.slice (some ⟨g, 0, none⟩) d.n d.n) := (hW.cell (p := ⟨g + 2, 0, none⟩) (by simp; omega)).trans (hbx4.cell 0)
          go_simp)
        obtain ⟨q, hq⟩ : ∃ q, w3.heap.size = q := ⟨_, rfl⟩
        rw [hq] at hb4
        have HC2 := Lib.hid (fun (W : World) (hW : Below w4.heap.size w4 W) => run_loadSec W q 0 c HCL.out (fun j v hv => by
          have := (Blk.lt hb4)
          rw [Nat.zero_add, World.cell?_of_block (hW.block q this), hb4.cell]
          simpa using hv))
        have hkb4 : Kb w4 g d.n (fluK d left) := HKB.out.block ((HB4.out.block g (by omega)).trans (HK3.out.block g (by omega) (by simp; omega)))
        have HKB4 := Lib.hid hkb4
        have hrg4 : w4.ranges Tryz.prog 3 secElem (g + 1) w1.heap.size d.n D (fun z => left z && !z.sameKey (.int .i64 (i : Int))) cnt3 := ranges_kept HRG3.out (Kept.of hB4 []) (by simp) (by simp)
        have HRG4 := Lib.hid hrg4
        clear hB4 hk4 hB2 hkk hbx4 hb4 hkb4 hrg4
        rw [hq]
        have hbd : Below w4.heap.size w4 w4.drew := (Below.refl _ _).drew
        generalize hnn : d.n = n at *
        refine wp_late (by kernel_rfl) 32 [(21, [0]), (22, [21]), (23, [22]), (24, [23]), (25, [4]), (26, [5]), (27, [24, 25]), (1007, [27, 26])]
          [Fact.is (.pointer (some ⟨g + 2, 0, none⟩)), Fact.is (.pointer (some ⟨g + 2, 0, none⟩)), Fact.is (.pointer (some ⟨g + 2, 0, none⟩)), Fact.is (.slice (some ⟨g, 0, none⟩) n n), Fact.is (.int .i64 (i : Int)), Fact.is (secV c), Fact.is (.pointer (some ⟨g, i * 64, none⟩)), default]
          [1, 1, 1, 1, 1, 1, 1, 2] [7] [] [21, 22, 23, 24, 25, 26, 27] ((fun _ _ w' => ∃ W, Below w4.heap.size w4 W ∧ w' = W.setCells g (i * 64) (cells c)))
          (by kernel_rfl) (by kernel_rfl) rfl rfl ⟨?s0, ?s1, ?s2, ?s3, ?s4, ?s5, ?s6, trivial⟩ ?late ?fin
        case s0 =>
          intro ρ W hb hc hf hr
          obtain ⟨r0, -⟩ := hr
          have e0 : ρ (.tmp 0) = .pointer (some ⟨g + 2, 0, none⟩) := r0
          clear r0
          refine under_none rfl ?_
          exact ⟨e0, Below.refl _ _⟩
        case s1 =>
          intro ρ W hb hc hf hr
          obtain ⟨r21, -⟩ := hr
          have e21 : ρ (.tmp 21) = .pointer (some ⟨g + 2, 0, none⟩) := r21
          clear r21
          refine under_none rfl ?_
          simp [execOp, e21, go_sem, softUpon, Fact.is, Below.refl]
        case s2 =>
          intro ρ W hb hc hf hr
          obtain ⟨r22, -⟩ := hr
          have e22 : ρ (.tmp 22) = .pointer (some ⟨g + 2, 0, none⟩) := r22
          clear r22
          refine under_none rfl ?_
          exact soft_field e22 rfl (fun W => by go_simp)
        case s3 =>
          intro ρ W hb hc hf hr
          obtain ⟨r23, -⟩ := hr
          have e23 : ρ (.tmp 23) = .pointer (some ⟨g + 2, 0, none⟩) := r23
          clear r23
          refine under_none rfl ?_
          exact soft_load e23 (HC0.out W (hbd.trans (hb.mono (by simp)))) rfl
        case s4 =>
          intro ρ W hb hc hf hr
          obtain ⟨r4, -⟩ := hr
          have e4 : ρ (.tmp 4) = .int .i64 (i : Int) := r4
          clear r4
          refine under_none rfl ?_
          exact ⟨e4, Below.refl _ _⟩
        case s5 =>
          intro ρ W hb hc hf hr
          obtain ⟨r5, -⟩ := hr
          have e5 : ρ (.tmp 5) = .pointer (some ⟨q, 0, none⟩) := r5
          clear r5
          refine under_none rfl ?_
          exact soft_load e5 (HC2.out W (hbd.trans (hb.mono (by simp)))) rfl
        case s6 =>
          intro ρ W hb hc hf hr
          obtain ⟨r24, r25, -⟩ := hr
          have e24 : ρ (.tmp 24) = .slice (some ⟨g, 0, none⟩) n n := r24
          clear r24
          have e25 : ρ (.tmp 25) = .int .i64 (i : Int) := r25
          clear r25
          refine under_none rfl ?_
          exact soft_index e24 e25 (run_indexSec W g n i hin) rfl
        case late =>
          intro p j o hj ho a W hsz h0 h1 hfr hou
          match p, hj with
          | 0, hj =>
            obtain rfl : 7 = j := Option.some.inj hj
            obtain rfl := Option.some.inj ho
            clear hj ho
            obtain ⟨hb, hhard⟩ := h0 rfl
            have e27 : a.eval (.tmp 27) = .pointer (some ⟨g, i * 64, none⟩) := hhard 27 6 rfl rfl
            have e26 : a.eval (.tmp 26) = secV c := hhard 26 5 rfl rfl
            clear h0 h1 hhard hfr hou
            refine late_store (x := .tmp 27) (y := .tmp 26) (w' := W.setCells g (i * 64) (cells c)) rfl (by rw [e27, e26]; exact run_storeSec W g (i * 64) c HCL.out ((HKB4.out.block ((hbd.trans (hb.mono (by simp))).block g (by omega))).there hin)) ⟨undef, rfl, W, hbd.trans (hb.mono (by simp)), rfl⟩
          | q + 1, hj => cases hj
        case fin =>
          intro a w5 ha hP
          obtain ⟨W, hW, rfl⟩ := hP
          have HW := Lib.hid hW
          clear hW
          simp only [List.foldl_cons, List.foldl_nil] at ha
          generalize a.tmps.getD 21 undef = v21 at ha
          generalize a.tmps.getD 22 undef = v22 at ha
          generalize a.tmps.getD 23 undef = v23 at ha
          generalize a.tmps.getD 24 undef = v24 at ha
          generalize a.tmps.getD 25 undef = v25 at ha
          generalize a.tmps.getD 26 undef = v26 at ha
          generalize a.tmps.getD 27 undef = v27 at ha
          simp only [Act.put, List.setIfInBounds_toArray, List.set_cons_succ, List.set_cons_zero] at ha
          subst ha
          have hk5 : Kept [g] w1 (W.setCells g (i * 64) (cells c)) := (HKR.out.new (HKK.out.trans (Kept.of HW.out _)) (by intro i hi; simp at hi ⊢; omega)).setCells (g := g) (by simp) _ _
          have hkb5 : Kb (W.setCells g (i * 64) (cells c)) g n (Plain.upd (fluK d left) i c) := (HKB4.out.block (HW.out.block g (by omega))).store (fun j hj => fluK_length d HO.out left j (by omega)) hin c HCL.out
          have hrg5 := ranges_kept HRG4.out ((Kept.of HW.out [g]).setCells (g := g) (by simp) (i * 64) (cells c)) (by simp) (by simp; omega)
          have HK5 := Lib.hid hk5
          have HKB5 := Lib.hid hkb5
          have HRG5 := Lib.hid hrg5
          clear hk5 hkb5 hrg5
          go_wp2
          go_roundw
          case rel =>
            subst hnn
            refine ⟨_, _, HRG5.out, HKB5.out.congr fun j _ => (fluK_step d left i c HWI.out j).symm, HK5.out⟩
          case measure =>
            rw [HRG5.out.left_eq, HRG.out.left_eq]; exact HLT.out
  · subst h0
    have HD1 := Lib.hid hd1
    clear hd1
    go_wp2
    go_returns
    have e4 : d.flush = d.begin := by rw [HFE.out, if_pos (by omega)]
    rw [e4, he]
    exact ⟨rfl, HD1.out, k1.mono (by simp)⟩
end Go.Proofs.YtehnhjnkbclnlaaGreatDoor

namespace Go.Proofs.YtehnhjnkbclnlaaGreatDoor
open Go.RowKit
set_option maxRecDepth 100000

theorem quo8 (W : World) (p : Nat) (hp : p < 1000) : (binOp .quo 3 (.int .i64 (p : Int)) (.int .i64 8)).run Tryz.prog W = .ok (.int .i64 ((p / 8 : Nat) : Int)) W := by
  have h0 : (0 : Int) ≤ (p : Int) := by omega
  have h1 : (p : Int) ≤ 1000 := by omega
  go_simp
  rw [IntKind.wrap_i64]
  omega
theorem rem8 (W : World) (p : Nat) (hp : p < 1000) : (binOp .rem 3 (.int .i64 (p : Int)) (.int .i64 8)).run Tryz.prog W = .ok (.int .i64 ((p % 8 : Nat) : Int)) W := by
  have h0 : (0 : Int) ≤ (p : Int) := by omega
  have h1 : (p : Int) ≤ 1000 := by omega
  go_simp
  exact Int.tmod_eq_emod_of_nonneg h0
theorem and1 (W : World) (x : Nat) (hx : x < 4294967296) : (binOp .and 70 (.int .u32 (x : Int)) (.int .u32 1)).run Tryz.prog W = .ok (.int .u32 ((x % 2 : Nat) : Int)) W := by
  have h := u32_and_nat x 1 hx (by omega)
  rw [Nat.and_one_is_mod] at h
  go_simp
  exact h
theorem conv8 (W : World) (b : Nat) (hb : b < 2) : (convert 70 5 (.int .u32 (b : Int))).run Tryz.prog W = .ok (.int .u8 (b : Int)) W := by
  rcases b with _ | _ | b
  · kernel_rfl
  · kernel_rfl
  · omega
theorem shl8 (W : World) (b e : Nat) (hb : b < 2) (he : e < 8) : (binOp .shl 5 (.int .u8 (b : Int)) (.int .i64 (e : Int))).run Tryz.prog W = .ok (.int .u8 ((b * 2 ^ e : Nat) : Int)) W := by
  have hb' : b = 0 ∨ b = 1 := by omega
  have he' : e = 0 ∨ e = 1 ∨ e = 2 ∨ e = 3 ∨ e = 4 ∨ e = 5 ∨ e = 6 ∨ e = 7 := by omega
  rcases hb' with rfl | rfl <;> rcases he' with rfl | rfl | rfl | rfl | rfl | rfl | rfl | rfl <;> first | rfl | go_simp
theorem shl_toNat (e : Nat) (he : e < 8) : ((1 : UInt8) <<< UInt8.ofNat e).toNat = 2 ^ e := by
  have he' : e = 0 ∨ e = 1 ∨ e = 2 ∨ e = 3 ∨ e = 4 ∨ e = 5 ∨ e = 6 ∨ e = 7 := by omega
  rcases he' with rfl | rfl | rfl | rfl | rfl | rfl | rfl | rfl <;> decide
/-- a byte of which a bit turns, or none -/
def turned1 (c : UInt8) (b e : Nat) : UInt8 := if b = 1 then c ^^^ ((1 : UInt8) <<< UInt8.ofNat e) else c
theorem xor8 (W : World) (c : UInt8) (b e : Nat) (hb : b < 2) (he : e < 8) : (binOp .xor 5 (.int .u8 (c.toNat : Int)) (.int .u8 ((b * 2 ^ e : Nat) : Int))).run Tryz.prog W = .ok (.int .u8 ((turned1 c b e).toNat : Int)) W := by
  have hc : c.toNat < 256 := c.toNat_lt
  have hz : b * 2 ^ e < 256 := by
    have : 2 ^ e ≤ 2 ^ 7 := Nat.pow_le_pow_right (by omega) (by omega)
    have hb' : b = 0 ∨ b = 1 := by omega
    rcases hb' with rfl | rfl <;> omega
  have h := u8_xor_nat c.toNat (b * 2 ^ e) hc hz
  have h2 : (turned1 c b e).toNat = c.toNat ^^^ (b * 2 ^ e) := by
    unfold turned1
    have hb' : b = 0 ∨ b = 1 := by omega
    rcases hb' with rfl | rfl
    · simp
    · rw [if_pos rfl, UInt8.toNat_xor, shl_toNat e he, Nat.one_mul]
  rw [h2]
  generalize b * 2 ^ e = z at *
  go_simp
theorem shr1 (W : World) (x : Nat) : (binOp .shr 70 (.int .u32 (x : Int)) (.int .u64 1)).run Tryz.prog W = .ok (.int .u32 ((x / 2 : Nat) : Int)) W := by
  go_simp
theorem run_indexArr (W : World) (g o m : Nat) (hm : m < 64) : (Instr.indexAt 69 (.pointer (some ⟨g, o, none⟩)) (.int .i64 (m : Int))).run Tryz.prog W = .ok (.pointer (some ⟨g, o + m, none⟩)) W := by
  have h0 : (0 : Int) ≤ (m : Int) := by omega
  have h1 : (m : Int) < 64 := by omega
  have e : (⟨g, o, none⟩ : Addr).add m = ⟨g, o + m, none⟩ := Addr.add_mid g o m
  go_simp
end Go.Proofs.YtehnhjnkbclnlaaGreatDoor

namespace Go.Proofs.YtehnhjnkbclnlaaGreatDoor
open Go.RowKit
set_option maxRecDepth 100000

theorem turned_step (s : List UInt8) (a bits k : Nat) (hp : a + k < 512) : (Plain.tr s a bits k).set ((a + k) / 8) (turned1 ((Plain.tr s a bits k).getD ((a + k) / 8) 0) (bits / 2 ^ k % 2) ((a + k) % 8)) = Plain.tr s a bits (k + 1) := by
  rw [Plain.tr_succ]
  by_cases h : bits / 2 ^ k % 2 = 1
  · rw [if_pos ⟨hp, h⟩, h]
    rfl
  · rw [if_neg (fun e => h e.2)]
    unfold turned1
    rw [if_neg h]
    generalize Plain.tr s a bits k = l
    apply List.ext_getElem?
    intro j
    by_cases e : j = (a + k) / 8
    · subst e
      rcases Nat.lt_or_ge ((a + k) / 8) l.length with hl | hl
      · simp [hl]
      · simp [hl]
    · rw [List.getElem?_set_ne (Ne.symm e)]
theorem ne_u32 (W : World) (x : Nat) (r : Bool) (h : decide (x ≠ 0) = r) : (binOp .neq 70 (.int .u32 (x : Int)) (.int .u32 0)).run Tryz.prog W = .ok (.bool r) W := by
  have e : (((x : Int) != 0)) = r := by
    rw [← h]
    by_cases hx : x = 0
    · subst hx; rfl
    · have : (x : Int) ≠ 0 := by omega
      simp [hx]
  go_simp

set_option maxHeartbeats 4000000 in
theorem turn_any (w : World) (g n i : Nat) (K : Nat → List UInt8) (at_ : Int) (bits : Nat) (hkb : Kb w g n K) (hK : ∀ j, j < n → (K j).length = 64) (hi : i < n) (hbits : bits < 4294967296) :
    Calls Tryz.prog 36 #[.pointer (some ⟨g, i * 64, none⟩), .int .i64 at_, .int .u32 (bits : Int)] w fun e w' => e = .returned (.tuple #[]) ∧ Kb w' g n (Plain.upd K i (Plain.turn (K i) at_ bits)) ∧ Kept [g] w w' := by
  by_cases hneg : at_ < 0
  · have e1 : Plain.turn (K i) at_ bits = K i := Plain.turn_out _ _ _ (.inl hneg)
    rw [e1, Plain.upd_self]
    have HKB := Lib.hid hkb
    have t0 : decide (at_ < 0) = true := by simpa using hneg
    clear hkb e1 hneg
    go_enter Tryz.func36, Tryz.ntmps36
    go_wp2
    go_returns
    exact ⟨rfl, HKB.out, Kept.refl _ _⟩
  · obtain ⟨aa, rfl⟩ := Int.eq_ofNat_of_zero_le (show 0 ≤ at_ by omega)
    have t0 : decide ((aa : Int) < 0) = false := by simp
    have HT := Lib.hid (show Plain.turn (K i) aa bits = Plain.tr (K i) aa bits 32 by unfold Plain.turn; rw [if_neg (by omega)]; rfl)
    obtain ⟨oo, ho⟩ : ∃ oo, i * 64 = oo := ⟨_, rfl⟩
    have HO := Lib.hid ho
    rw [ho]
    have HKB := Lib.hid hkb
    have HK := Lib.hid hK
    clear hkb hK hneg ho
    go_enter Tryz.func36, Tryz.ntmps36
    go_wp2
    go_loopw [1, 2] (fun s t wr => ∃ k : Nat, s = .int .i64 ((aa + k : Nat) : Int) ∧ t = .int .u32 ((bits / 2 ^ k : Nat) : Int) ∧ (k = 0 ∨ aa + k ≤ 512) ∧ Kb wr g n (Plain.upd K i (Plain.tr (K i) aa bits k)) ∧ Kept [g] w wr) (fun s _ _ => 512 - (RowKit.intOf s).toNat)
    case atStart =>
      refine ⟨0, rfl, by simp, .inl rfl, ?_, Kept.refl _ _⟩
      show Kb w g n (Plain.upd K i (K i))
      rw [Plain.upd_self]; exact HKB.out
    case round =>
      obtain ⟨k, rfl, rfl, hk, hkr, hkp⟩ := hrel
      obtain ⟨pp, hp⟩ : ∃ pp, aa + k = pp := ⟨_, rfl⟩
      obtain ⟨x, hx⟩ : ∃ x, bits / 2 ^ k = x := ⟨_, rfl⟩
      have hxb : x < 4294967296 := by rw [← hx]; exact Nat.lt_of_le_of_lt (Nat.div_le_self _ _) hbits
      have HX := Lib.hid hx
      have HP := Lib.hid hp
      rw [hp, hx]
      rw [hp] at hk
      have HKR := Lib.hid hkr
      have HKP := Lib.hid hkp
      clear hkr hkp hp hx
      by_cases hgo : x ≠ 0 ∧ pp < 512
      · obtain ⟨hx0, hp5⟩ := hgo
        have t1 : ((x : Int) != 0) = true := by simp; omega
        have t2 : decide ((pp : Int) < 512) = true := by simp; omega
        obtain ⟨s, hs⟩ : ∃ s, Plain.tr (K i) aa bits k = s := ⟨_, rfl⟩
        have hsl : s.length = 64 := by rw [← hs, Plain.tr_length]; exact HK.out i hi
        have hrg : wr.rangeAt g oo (cells s) := by
          have := HKR.out.range hi
          rw [Plain.upd_same, HO.out, hs] at this
          exact this
        obtain ⟨c, hc⟩ : ∃ c, s.getD (pp / 8) 0 = c := ⟨_, rfl⟩
        have hcell : wr.cell? ⟨g, oo + pp / 8, none⟩ = some (.int .u8 (c.toNat : Int)) := hrg (pp / 8) _ (by
          have hl : pp / 8 < s.length := by omega
          rw [← hc]
          simp [cells, hl])
        have hgl : g < wr.heap.size := HKR.out.lt
        have HL := Lib.hid (fun (W : World) (hW : Below wr.heap.size wr W) => show (Instr.loadAt 5 (.pointer (some ⟨g, oo + pp / 8, none⟩))).run Tryz.prog W = .ok (.int .u8 (c.toNat : Int)) W from by
          have c1 : W.cell? ⟨g, oo + pp / 8, none⟩ = some (.int .u8 (c.toNat : Int)) := (hW.cell (p := ⟨g, oo + pp / 8, none⟩) hgl).trans hcell
          go_simp)
        have HST := Lib.hid (fun (W : World) (hW : Below wr.heap.size wr W) (v : Int) => show (Instr.storeAt 5 (.pointer (some ⟨g, oo + pp / 8, none⟩)) (.int .u8 v)).run Tryz.prog W = .ok () (W.setCell ⟨g, oo + pp / 8, none⟩ (.int .u8 v)) from by
          have c1 : W.cell? ⟨g, oo + pp / 8, none⟩ = some (.int .u8 (c.toNat : Int)) := (hW.cell (p := ⟨g, oo + pp / 8, none⟩) hgl).trans hcell
          have f1 : W.frozen? ⟨g, oo + pp / 8, none⟩ = false := by
            have := ((HKR.out.block (hW.block g hgl)).there hi (pp / 8) (by omega)).2
            rwa [HO.out] at this
          go_simp)
        have HC := Lib.hid hc
        have HS := Lib.hid hs
        have hx := hxb
        have hbd : Below wr.heap.size wr wr.drew := (Below.refl _ _).drew
        clear hcell hrg hc hs hsl
        go_wp2
        refine wp_late (by kernel_rfl) 33 [(16, [0]), (17, [1]), (18, [17]), (19, [16]), (20, [19, 18]), (21, [20]), (22, [2]), (23, [22]), (24, [23]), (25, [1]), (26, [25]), (27, [24, 26]), (28, [21, 27]), (29, [16]), (30, [29, 18]), (1015, [30, 28])]
          [Fact.is (.pointer (some ⟨g, oo, none⟩)), Fact.is (.int .i64 (pp : Int)), Fact.is (.int .i64 ((pp / 8 : Nat) : Int)), Fact.is (.pointer (some ⟨g, oo, none⟩)), Fact.is (.pointer (some ⟨g, oo + pp / 8, none⟩)), Fact.is (.int .u8 (c.toNat : Int)), Fact.is (.int .u32 (x : Int)), Fact.is (.int .u32 ((x % 2 : Nat) : Int)), Fact.is (.int .u8 ((x % 2 : Nat) : Int)), Fact.is (.int .i64 (pp : Int)), Fact.is (.int .i64 ((pp % 8 : Nat) : Int)), Fact.is (.int .u8 ((x % 2 * 2 ^ (pp % 8) : Nat) : Int)), Fact.is (.int .u8 ((turned1 c (x % 2) (pp % 8)).toNat : Int)), Fact.is (.pointer (some ⟨g, oo, none⟩)), Fact.is (.pointer (some ⟨g, oo + pp / 8, none⟩)), default]
          [1, 1, 1, 1, 1, 1, 1, 1, 1, 1, 1, 1, 1, 1, 1, 2] [15] [] [16, 17, 18, 19, 20, 21, 22, 23, 24, 25, 26, 27, 28, 29, 30] ((fun _ _ w' => ∃ W, Below wr.heap.size wr W ∧ w' = W.setCell ⟨g, oo + pp / 8, none⟩ (.int .u8 ((turned1 c (x % 2) (pp % 8)).toNat : Int))))
          (by kernel_rfl) (by kernel_rfl) rfl rfl ⟨?s0, ?s1, ?s2, ?s3, ?s4, ?s5, ?s6, ?s7, ?s8, ?s9, ?s10, ?s11, ?s12, ?s13, ?s14, trivial⟩ ?late ?fin
        case s0 =>
          intro ρ W hb hc hf hr
          obtain ⟨r0, -⟩ := hr
          have e0 : ρ (.tmp 0) = .pointer (some ⟨g, oo, none⟩) := r0
          clear r0
          refine under_none rfl ?_
          exact ⟨e0, Below.refl _ _⟩
        case s1 =>
          intro ρ W hb hc hf hr
          obtain ⟨r1, -⟩ := hr
          have e1 : ρ (.tmp 1) = .int .i64 (pp : Int) := r1
          clear r1
          refine under_none rfl ?_
          exact ⟨e1, Below.refl _ _⟩
        case s2 =>
          intro ρ W hb hc hf hr
          obtain ⟨r17, -⟩ := hr
          have e17 : ρ (.tmp 17) = .int .i64 (pp : Int) := r17
          clear r17
          refine under_none rfl ?_
          exact soft_bin e17 (hc _) rfl rfl (quo8 W pp (by omega))
        case s3 =>
          intro ρ W hb hc hf hr
          obtain ⟨r16, -⟩ := hr
          have e16 : ρ (.tmp 16) = .pointer (some ⟨g, oo, none⟩) := r16
          clear r16
          refine under_none rfl ?_
          simp [execOp, e16, go_sem, softUpon, Fact.is, Below.refl]
        case s4 =>
          intro ρ W hb hc hf hr
          obtain ⟨r19, r18, -⟩ := hr
          have e19 : ρ (.tmp 19) = .pointer (some ⟨g, oo, none⟩) := r19
          clear r19
          have e18 : ρ (.tmp 18) = .int .i64 ((pp / 8 : Nat) : Int) := r18
          clear r18
          refine under_none rfl ?_
          exact soft_index e19 e18 (run_indexArr W g oo (pp / 8) (by omega)) rfl
        case s5 =>
          intro ρ W hb hc hf hr
          obtain ⟨r20, -⟩ := hr
          have e20 : ρ (.tmp 20) = .pointer (some ⟨g, oo + pp / 8, none⟩) := r20
          clear r20
          refine under_none rfl ?_
          exact soft_load e20 (HL.out W (hbd.trans (hb.mono (by simp)))) rfl
        case s6 =>
          intro ρ W hb hc hf hr
          obtain ⟨r2, -⟩ := hr
          have e2 : ρ (.tmp 2) = .int .u32 (x : Int) := r2
          clear r2
          refine under_none rfl ?_
          exact ⟨e2, Below.refl _ _⟩
        case s7 =>
          intro ρ W hb hc hf hr
          obtain ⟨r22, -⟩ := hr
          have e22 : ρ (.tmp 22) = .int .u32 (x : Int) := r22
          clear r22
          refine under_none rfl ?_
          exact soft_bin e22 (hc _) rfl rfl (and1 W x hx)
        case s8 =>
          intro ρ W hb hc hf hr
          obtain ⟨r23, -⟩ := hr
          have e23 : ρ (.tmp 23) = .int .u32 ((x % 2 : Nat) : Int) := r23
          clear r23
          refine under_none rfl ?_
          exact soft_conv e23 (conv8 W (x % 2) (by omega)) rfl
        case s9 =>
          intro ρ W hb hc hf hr
          obtain ⟨r1, -⟩ := hr
          have e1 : ρ (.tmp 1) = .int .i64 (pp : Int) := r1
          clear r1
          refine under_none rfl ?_
          exact ⟨e1, Below.refl _ _⟩
        case s10 =>
          intro ρ W hb hc hf hr
          obtain ⟨r25, -⟩ := hr
          have e25 : ρ (.tmp 25) = .int .i64 (pp : Int) := r25
          clear r25
          refine under_none rfl ?_
          exact soft_bin e25 (hc _) rfl rfl (rem8 W pp (by omega))
        case s11 =>
          intro ρ W hb hc hf hr
          obtain ⟨r24, r26, -⟩ := hr
          have e24 : ρ (.tmp 24) = .int .u8 ((x % 2 : Nat) : Int) := r24
          clear r24
          have e26 : ρ (.tmp 26) = .int .i64 ((pp % 8 : Nat) : Int) := r26
          clear r26
          refine under_none rfl ?_
          exact soft_bin e24 e26 rfl rfl (shl8 W (x % 2) (pp % 8) (by omega) (by omega))
        case s12 =>
          intro ρ W hb hc hf hr
          obtain ⟨r21, r27, -⟩ := hr
          have e21 : ρ (.tmp 21) = .int .u8 (c.toNat : Int) := r21
          clear r21
          have e27 : ρ (.tmp 27) = .int .u8 ((x % 2 * 2 ^ (pp % 8) : Nat) : Int) := r27
          clear r27
          refine under_none rfl ?_
          exact soft_bin e21 e27 rfl rfl (xor8 W c (x % 2) (pp % 8) (by omega) (by omega))
        case s13 =>
          intro ρ W hb hc hf hr
          obtain ⟨r16, -⟩ := hr
          have e16 : ρ (.tmp 16) = .pointer (some ⟨g, oo, none⟩) := r16
          clear r16
          refine under_none rfl ?_
          simp [execOp, e16, go_sem, softUpon, Fact.is, Below.refl]
        case s14 =>
          intro ρ W hb hc hf hr
          obtain ⟨r29, r18, -⟩ := hr
          have e29 : ρ (.tmp 29) = .pointer (some ⟨g, oo, none⟩) := r29
          clear r29
          have e18 : ρ (.tmp 18) = .int .i64 ((pp / 8 : Nat) : Int) := r18
          clear r18
          refine under_none rfl ?_
          exact soft_index e29 e18 (run_indexArr W g oo (pp / 8) (by omega)) rfl
        case late =>
          intro p j o hj ho a W hsz h0 h1 hfr hou
          match p, hj with
          | 0, hj =>
            obtain rfl : 15 = j := Option.some.inj hj
            obtain rfl := Option.some.inj ho
            clear hj ho
            obtain ⟨hb, hhard⟩ := h0 rfl
            have e30 : a.eval (.tmp 30) = .pointer (some ⟨g, oo + pp / 8, none⟩) := hhard 30 14 rfl rfl
            have e28 : a.eval (.tmp 28) = .int .u8 ((turned1 c (x % 2) (pp % 8)).toNat : Int) := hhard 28 12 rfl rfl
            clear h0 h1 hhard hfr hou
            refine late_store (x := .tmp 30) (y := .tmp 28) (w' := W.setCell ⟨g, oo + pp / 8, none⟩ (.int .u8 ((turned1 c (x % 2) (pp % 8)).toNat : Int))) rfl (by rw [e30, e28]; exact HST.out W (hbd.trans (hb.mono (by simp))) _) ⟨undef, rfl, W, hbd.trans (hb.mono (by simp)), rfl⟩
          | q + 1, hj => cases hj
        case fin =>
          intro a w5 ha hP
          obtain ⟨W, hW, rfl⟩ := hP
          have HW := Lib.hid hW
          clear hW
          simp only [List.foldl_cons, List.foldl_nil] at ha
          generalize a.tmps.getD 16 undef = v16 at ha
          generalize a.tmps.getD 17 undef = v17 at ha
          generalize a.tmps.getD 18 undef = v18 at ha
          generalize a.tmps.getD 19 undef = v19 at ha
          generalize a.tmps.getD 20 undef = v20 at ha
          generalize a.tmps.getD 21 undef = v21 at ha
          generalize a.tmps.getD 22 undef = v22 at ha
          generalize a.tmps.getD 23 undef = v23 at ha
          generalize a.tmps.getD 24 undef = v24 at ha
          generalize a.tmps.getD 25 undef = v25 at ha
          generalize a.tmps.getD 26 undef = v26 at ha
          generalize a.tmps.getD 27 undef = v27 at ha
          generalize a.tmps.getD 28 undef = v28 at ha
          generalize a.tmps.getD 29 undef = v29 at ha
          generalize a.tmps.getD 30 undef = v30 at ha
          simp only [Act.put, List.setIfInBounds_toArray, List.set_cons_succ, List.set_cons_zero] at ha
          subst ha
          have hk5 : Kept [g] w (W.setCell ⟨g, oo + pp / 8, none⟩ (.int .u8 ((turned1 c (x % 2) (pp % 8)).toNat : Int))) := (HKP.out.trans (Kept.of HW.out _)).setCell (by simp) _
          have hkb5 : Kb (W.setCell ⟨g, oo + pp / 8, none⟩ (.int .u8 ((turned1 c (x % 2) (pp % 8)).toNat : Int))) g n (Plain.upd K i (Plain.tr (K i) aa bits (k + 1))) := by
            have h1 := (HKR.out.block (HW.out.block g hgl)).byte (i := i) (j := pp / 8) (fun j hj => by
              unfold Plain.upd
              split
              · rw [Plain.tr_length]; exact HK.out i hi
              · exact HK.out j hj) hi (by omega) (turned1 c (x % 2) (pp % 8))
            rw [Plain.upd_same, Plain.upd_upd, HO.out, HS.out] at h1
            have h2 := turned_step (K i) aa bits k (by rw [HP.out]; exact hp5)
            rw [HP.out, HX.out, HS.out, HC.out] at h2
            rw [← h2]
            exact h1
          have HK5 := Lib.hid hk5
          have HKB5 := Lib.hid hkb5
          have hsr := shr1
          clear hk5 hkb5
          go_wp2
          go_roundw
          case rel =>
            refine ⟨k + 1, ?_, ?_, .inr (by have := HP.out; omega), HKB5.out, HK5.out⟩
            · rw [← Nat.add_assoc, HP.out]; go_num
            · rw [Nat.pow_succ, ← Nat.div_div_eq_div_mul, HX.out]
              first | rfl | go_num
          case measure => simp [RowKit.intOf]; omega
      · have HF := Lib.hid (show Plain.tr (K i) aa bits k = Plain.tr (K i) aa bits 32 from Plain.tr_all _ _ _ _ hbits (by rw [HX.out, HP.out]; omega))
        by_cases hx0 : x = 0
        · subst hx0
          have t1 : (((0 : Nat) : Int) != 0) = false := rfl
          go_wp2
          go_returns
          refine ⟨rfl, ?_, HKP.out⟩
          rw [HT.out, ← HF.out]; exact HKR.out
        · have t1 : ((x : Int) != 0) = true := by simp; omega
          have t2 : decide ((pp : Int) < 512) = false := by simp; omega
          go_wp2
          go_returns
          refine ⟨rfl, ?_, HKP.out⟩
          rw [HT.out, ← HF.out]; exact HKR.out
end Go.Proofs.YtehnhjnkbclnlaaGreatDoor
