/-
  P14.1, EntryPlays: for all calls and any extent the law returns true: calls of an index answer as the document says; so do all entries, and which are in any extent. No condition.
-/
import Derived.Test.YtepfbpljkhchbaaLwF
import Derived.Test.YtepfbpljkhchbaaRiF
import Derived.BigRegion
import Derived.Deep.CutRange
import Derived.Deep.CutBlock
import Derived.Deep.WholeRow
namespace Go.Proofs.Ytepfbpljkhchbaa.entryPlays
open Go.ChangeShapes Go.WideShapes Go.ChangeAt Go.RowKit Go.Maps En
set_option maxRecDepth 100000

/-- a call, read whole in its row, and laid into a box of its own -/
theorem run_opLoad (w : World) (q : Addr) (o : Opq) (sn : Nat) (hs : o.t.e.sv.length = sn) (h : ∀ j c, (opCells o)[j]? = some c → w.cell? (q.add j) = some c) : (Instr.loadAt 37 (.pointer (some q))).run Try.prog w = .ok (.agg #[.int .i64 o.what, .int .i64 o.t.e.id, .int .i64 o.t.e.cl, .int .i64 o.t.e.tick, .int .i64 o.t.e.cost, .bool o.t.e.pin, .int .i64 o.t.e.bid, .int .i64 o.t.e.lo, .int .i64 o.t.e.hi, .int .i64 o.t.e.many, .slice o.t.A sn o.t.cap, .int .i64 o.t.e.seq, .int .i64 o.t.e.pl, .int .i64 o.t.e.sz, .int .i64 o.id, .bool o.is, .int .i64 o.cl, .int .i64 o.sq, .int .i64 o.pl, .int .i64 o.sz]) w := by
  subst hs
  have hl : (loadCells q 20).run Try.prog w = .ok (opCells o).toArray w := run_loadCells_list (P := Try.prog) w q (opCells o) h
  have hi : (Try.prog.info? 37).map (·.size) = some 20 := by kernel_rfl
  have hagg : (isAgg 37).run Try.prog w = .ok true w := by
    unfold isAgg
    rw [Sem.run_bind, run_underlying Try.underlying37 w]
    rfl
  cases hq : Try.prog.info? 37 with
  | none => rw [hq] at hi; cases hi
  | some i =>
    have hs : i.size = 20 := by simpa [hq] using hi
    simp only [Instr.loadAt, Instr.sureAddr, Sem.run_bind, Sem.run_pure, Result.andThen_ok]
    simp [loadVar, Sem.run_bind, hagg, sizeOf, typeInfo, hq, hs, hl, opCells, opA]
theorem run_opStore (w : World) (o : Opq) (sn : Nat) : (Instr.storeAt 37 (.pointer (some ⟨w.heap.size, 0, none⟩)) (.agg #[.int .i64 o.what, .int .i64 o.t.e.id, .int .i64 o.t.e.cl, .int .i64 o.t.e.tick, .int .i64 o.t.e.cost, .bool o.t.e.pin, .int .i64 o.t.e.bid, .int .i64 o.t.e.lo, .int .i64 o.t.e.hi, .int .i64 o.t.e.many, .slice o.t.A sn o.t.cap, .int .i64 o.t.e.seq, .int .i64 o.t.e.pl, .int .i64 o.t.e.sz, .int .i64 o.id, .bool o.is, .int .i64 o.cl, .int .i64 o.sq, .int .i64 o.pl, .int .i64 o.sz])).run Try.prog (w.alloc (.cells #[.int .i64 0, .int .i64 0, .int .i64 0, .int .i64 0, .int .i64 0, .bool false, .int .i64 0, .int .i64 0, .int .i64 0, .int .i64 0, .slice none 0 0, .int .i64 0, .int .i64 0, .int .i64 0, .int .i64 0, .bool false, .int .i64 0, .int .i64 0, .int .i64 0, .int .i64 0] 37)) = .ok () (w.alloc (.cells #[.int .i64 o.what, .int .i64 o.t.e.id, .int .i64 o.t.e.cl, .int .i64 o.t.e.tick, .int .i64 o.t.e.cost, .bool o.t.e.pin, .int .i64 o.t.e.bid, .int .i64 o.t.e.lo, .int .i64 o.t.e.hi, .int .i64 o.t.e.many, .slice o.t.A sn o.t.cap, .int .i64 o.t.e.seq, .int .i64 o.t.e.pl, .int .i64 o.t.e.sz, .int .i64 o.id, .bool o.is, .int .i64 o.cl, .int .i64 o.sq, .int .i64 o.pl, .int .i64 o.sz] 37)) :=
  run_storeAt_new (P := Try.prog) w 37 #[.int .i64 0, .int .i64 0, .int .i64 0, .int .i64 0, .int .i64 0, .bool false, .int .i64 0, .int .i64 0, .int .i64 0, .int .i64 0, .slice none 0 0, .int .i64 0, .int .i64 0, .int .i64 0, .int .i64 0, .bool false, .int .i64 0, .int .i64 0, .int .i64 0, .int .i64 0] #[.int .i64 o.what, .int .i64 o.t.e.id, .int .i64 o.t.e.cl, .int .i64 o.t.e.tick, .int .i64 o.t.e.cost, .bool o.t.e.pin, .int .i64 o.t.e.bid, .int .i64 o.t.e.lo, .int .i64 o.t.e.hi, .int .i64 o.t.e.many, .slice o.t.A sn o.t.cap, .int .i64 o.t.e.seq, .int .i64 o.t.e.pl, .int .i64 o.t.e.sz, .int .i64 o.id, .bool o.is, .int .i64 o.cl, .int .i64 o.sq, .int .i64 o.pl, .int .i64 o.sz] (by kernel_rfl) rfl (by simp [Value.oneCell'])
theorem blk_op {W : World} {b : Nat} {o : Opq} (h : Blk W b (opA o) 37) : (Instr.loadAt 35 (.pointer (some ⟨b, 1, none⟩))).run Try.prog W = .ok (.agg (enA o.t.e (.slice o.t.A o.t.e.sv.length o.t.cap))) W :=
  run_loadOp W ⟨b, 0, none⟩ o (fun j c hc => by
    have e : (⟨b, 0, none⟩ : Addr).add j = ⟨b, j, none⟩ := by unfold Addr.add; split <;> simp_all
    rw [e, h.cell j]
    simpa [opCells] using hc)

/-- the two indices, side by side -/
structure PlSt (w0 : World) (x b : Nat) (p : Int → Nat) (M : List E) (r : Nat) (N : List E) (W : World) : Prop where
  idx : IsIdx [r] W x b p M
  ref : IsRef (mine x b p M) W r N
  new : ∀ i ∈ mine x b p M, w0.heap.size ≤ i
  rnew : w0.heap.size ≤ r
  be : Below w0.heap.size w0 W
theorem PlSt.below {w0 : World} {x b : Nat} {p : Int → Nat} {M N : List E} {r : Nat} {W W' : World} (h : PlSt w0 x b p M r N W) (k : Below W.heap.size W W') : PlSt w0 x b p M r N W' :=
  ⟨h.idx.below k, h.ref.below k, h.new, h.rnew, h.be.trans (k.mono h.be.size)⟩
theorem PlSt.step {w0 : World} {x b : Nat} {p p' : Int → Nat} {M M' N : List E} {r : Nat} {W W' : World} {S : List Nat} (h : PlSt w0 x b p M r N W) (hI : IsIdx [r] W' x b p' M') (hk : Kept S W W') (hS : ∀ s ∈ S, s ∈ mine x b p M) (hm : ∀ i ∈ mine x b p' M', i ∈ mine x b p M ∨ W.heap.size ≤ i) : PlSt w0 x b p' M' r N W' := by
  have h1 : IsRef (mine x b p M ++ mine x b p' M') W r N := h.ref.more (fun s hs => by
    rcases List.mem_append.1 hs with hs | hs
    · exact .inl hs
    · exact hm s hs)
  have h2 := h1.keep hk (fun s hs => .inl (List.mem_append_left _ (hS s hs)))
  exact ⟨hI, h2.more (fun s hs => .inl (List.mem_append_right _ hs)), fun i hi => (hm i hi).elim (h.new i) (fun h' => Nat.le_trans h.be.size h'), h.rnew, Kept.below h.be hk (fun s hs => h.new s (hS s hs))⟩
theorem PlSt.rstep {w0 : World} {x b : Nat} {p : Int → Nat} {M N N' : List E} {r : Nat} {W W' : World} (h : PlSt w0 x b p M r N W) (hR : IsRef (mine x b p M) W' r N') (hk : Kept [r] W W') : PlSt w0 x b p M r N' W' :=
  ⟨h.idx.keep hk (by simp), hR, h.new, h.rnew, Kept.below h.be hk (by simpa using h.rnew)⟩
theorem lies_of {w : World} {A : Option Addr} {ts : List Ent} {n : Nat} (h : n = 0 ∨ Lies w A (flatEn ts)) (hn : ts.length = n) : Lies w A (flatEn ts) := by
  rcases h with h | h
  · rw [nil_of_len (l := ts) (by omega)]; exact .inl rfl
  · exact h
theorem lies_ofI {w : World} {A : Option Addr} {ts : List Plain.It} {n : Nat} (h : n = 0 ∨ Lies w A (flatI ts)) (hn : ts.length = n) : Lies w A (flatI ts) := by
  rcases h with h | h
  · rw [nil_of_len (l := ts) (by omega)]; exact .inl rfl
  · exact h
/-- what a call answers -/
def ans14 (o : Opq) (m : List E) : Bool := if o.what = 3 ∨ o.what = 4 ∨ o.what = 5 ∨ o.what = 6 then (En.get m o.id).isSome else (En.get m o.t.e.id).isSome

set_option maxHeartbeats 16000000 in
theorem walkN (w : World) (A : Option Addr) (n cap : Nat) (l : List Opq) (s : Int) (hn : l.length = n) (hl : n ≤ cap) (hm : cap ≤ maxLen) (hA : Lies w A (flatO l)) (hQ : ∀ o ∈ l, OpIn w o) :
    Calls Try.prog 3 #[.slice A n cap, .int .i64 s] w fun e w' => e = .returned (.bool true) ∧ Below w.heap.size w w' := by
  have HA := Lib.hid hA
  have HN := Lib.hid hn
  have HQ := Lib.hid hQ
  have HNM := Lib.hid (show n ≤ maxLen from Nat.le_trans hl hm)
  clear hA hn hQ hl hm
  go_enter Try.func3, Try.ntmps3
  go_wp2_with fail
  refine (head14_any w).mono ?_
  rintro e w1 ⟨rfl, d1⟩
  have HB1 := Lib.hid d1
  clear d1
  go_wp2_with fail
  refine (new14_any [] w1 (by simp)).mono ?_
  rintro e w2 ⟨x, b, rfl, hI2, hx, hbx, d2⟩
  have HI2 := Lib.hid hI2
  have HB2 := Lib.hid (HB1.out.trans (d2.mono HB1.out.size))
  have HBB := Lib.hid (And.intro (Nat.le_trans HB1.out.size hx) (Nat.le_trans HB1.out.size hbx))
  clear hI2 hx hbx d2
  go_wp2_with fail
  refine (rnew14_any (mine x b (fun _ => 0) []) w2 HI2.out.lt).mono ?_
  rintro e wq ⟨r, rfl, hR, hrn, dr⟩
  have HST := Lib.hid (show PlSt w x b (fun _ => 0) [] r [] wq from
    ⟨(HI2.out.more (R' := [r]) (by simpa using hrn)).below dr, hR, (fun i hi => by
      rcases mem_mine.1 hi with rfl | rfl | ⟨e, he, -⟩
      · exact HBB.out.1
      · exact HBB.out.2
      · cases he), Nat.le_trans HB2.out.size hrn, HB2.out.trans (dr.mono HB2.out.size)⟩)
  clear hR hrn dr HI2 HB2 HBB
  have HB2 := Lib.hid HST.out.be
  go_wp2_with fail
  refine (great14_any A n cap l wq HN.out HNM.out (HA.out.below HB2.out) (fun o ho => (HQ.out o ho).t.below HB2.out)).mono ?_
  rintro e w3 ⟨r, rfl, hr, rfl⟩
  rcases r with _ | _
  rotate_left
  · have HB := HB2.out
    go_wp2
    go_ret
    exact ⟨rfl, HB⟩
  have HR := Lib.hid (hr rfl)
  have hn200 := HR.out.1
  clear hr
  go_wp2
  go_loopw [8] (fun s8 wr => ∃ (k : Nat) (p : Int → Nat), s8 = .int .i64 (k : Int) ∧ k ≤ n ∧ PlSt w x b p (run14 (l.take k)) r (run14 (l.take k)) wr) (fun i _ => n - (intOf i).toNat)
  case atStart => exact ⟨0, _, rfl, Nat.zero_le _, HST.out⟩
  case round =>
    obtain ⟨k, p, rfl, hk, hst⟩ := hrel
    have HS := Lib.hid hst
    clear hst HST
    by_cases hlt : k < n
    · have hkl : k < l.length := by rw [HN.out]; exact hlt
      obtain ⟨ad, rfl, hadb, hcl⟩ := at_op HA.out k hkl
      have hix := fun (W : World) => show (Instr.indexAt 22 (.slice (some ad) n cap) (.int .i64 (k : Int))).run Try.prog W = .ok (.pointer (some (ad.add (k * 20)))) W by go_simp
      have HRT := Lib.hid (run14_take l k hkl)
      have HO := Lib.hid (HQ.out l[k] (List.getElem_mem hkl))
      have H9 := Lib.hid (HR.out.2 l[k] (List.getElem_mem hkl))
      have HL1 := Lib.hid (show (run14 (l.take k)).length < 1000 by have := run14_len (l.take k); simp at this; omega)
      have HOM := Lib.hid (run14_ok (l.take k))
      have hop := hcl wr HS.out.be
      clear hcl
      obtain ⟨M, hM⟩ : ∃ M, run14 (l.take k) = M := ⟨_, rfl⟩
      obtain ⟨o, ho⟩ : ∃ o, l[k] = o := ⟨_, rfl⟩
      rw [hM] at HS HRT HL1 HOM
      rw [ho] at HRT HO H9 hop
      clear hM ho
      generalize ad.add (k * 20) = q at *
      obtain ⟨sn, hsn⟩ : ∃ sn, o.t.e.sv.length = sn := ⟨_, rfl⟩
      rw [hsn] at H9
      have HSN := Lib.hid hsn
      have HLD := Lib.hid (run_opLoad wr q o sn hsn hop)
      have HSO := Lib.hid (run_opStore wr o sn)
      clear hop
      have hbo : Below wr.heap.size wr (wr.alloc (.cells (opA o) 37)) := (Below.refl _ _).alloc (Nat.le_refl _) _
      have hob := Blk.new wr (opA o) 37
      have HMO := Lib.hid (show (∀ i ∈ mine x b p M, i ≠ wr.heap.size) ∧ r ≠ wr.heap.size from ⟨fun i hi => by have := HS.out.idx.lt i hi; omega, by have := HS.out.ref.lt; omega⟩)
      obtain ⟨W5, hW5⟩ : ∃ W5, wr.alloc (.cells (opA o) 37) = W5 := ⟨_, rfl⟩
      rw [hW5] at hbo hob
      have HS5 := Lib.hid (HS.out.below hbo)
      have HO5 := Lib.hid hob
      obtain ⟨OB, hOB⟩ : ∃ OB, wr.heap.size = OB := ⟨_, rfl⟩
      rw [hOB] at HO5 HMO
      have HOB := Lib.hid hOB
      unfold opA at hW5
      simp only [hsn] at hW5
      have HW5 := Lib.hid hW5
      clear hsn hbo hob hW5 HS hOB
      go_upto_block 2 with (first | refine wpList_loadW rfl 37 _ rfl _ _ rfl HLD.out ?_ | refine wpList_storeW rfl 37 _ _ rfl _ _ rfl rfl HSO.out ?_)
      rw [HW5.out, HOB.out]
      clear HLD HSO
      go_cut [10, 11] from 30 to 154 (fun s10 s11 wc => ∃ (p' : Int → Nat) (t : Bool), s10 = .bool t ∧ s11 = .bool t ∧ PlSt w x b p' (step14 o M) r (step14 o M) wc ∧ Blk wc OB (opA o) 37)
      case first =>
        have o14 := HO5.out.cell 14
        have o15 := HO5.out.cell 15
        have o16 := HO5.out.cell 16
        have o17 := HO5.out.cell 17
        have o18 := HO5.out.cell 18
        have o19 := HO5.out.cell 19
        simp [opA] at o14 o15 o16 o17 o18 o19
        by_cases h3 : o.what = 3
        · have hq3 : (o.what == 3) = true := by simpa using h3
          have HSP := Lib.hid (show step14 o M = En.del M o.id by unfold step14; rw [if_pos h3])
          have HU := Lib.hid (del14_any HS5.out.idx (i := o.id) HO.out.id)
          go_wp2_with fail
          refine HU.out.mono ?_
          rintro e w8 ⟨rfl, hI8, hk8⟩
          have HS8 := Lib.hid (HS5.out.step hI8 hk8 (by intro s hs; rw [List.mem_singleton.1 hs]; exact mem_mine.2 (.inr (.inl rfl))) (fun i hi => .inl (mine_del _ i hi)))
          have HO8 := Lib.hid (hk8.blk HO5.out (by have := HMO.out.1 b (mem_mine.2 (.inr (.inl rfl))); simp; exact fun e => this e.symm))
          clear hI8 hk8 HU o14 o15 o16 o17 o18 o19
          have o14 := HO8.out.cell 14
          have o15 := HO8.out.cell 15
          have o16 := HO8.out.cell 16
          have o17 := HO8.out.cell 17
          have o18 := HO8.out.cell 18
          have o19 := HO8.out.cell 19
          simp [opA] at o14 o15 o16 o17 o18 o19
          have HU := Lib.hid (rdel14_any HS8.out.ref HOM.out.uq HS8.out.idx.lt o.id)
          go_wp2_with fail
          refine HU.out.mono ?_
          rintro e w9 ⟨rfl, hR9, hk9⟩
          have HS9 := Lib.hid (HS8.out.rstep hR9 hk9)
          have HO9 := Lib.hid (hk9.blk HO8.out (by simp; exact fun e => HMO.out.2 e.symm))
          clear hR9 hk9 HU
          go_wp2_with fail
          go_meet
          exact ⟨p, _, rfl, rfl, by rw [HSP.out]; exact HS9.out, HO9.out⟩
        · have hq3 : (o.what == 3) = false := by simpa using h3
          by_cases h4 : o.what = 4
          · have hq4 : (o.what == 4) = true := by simpa using h4
            have HSP := Lib.hid (show step14 o M = En.upd M o.id (pinU o.is) by unfold step14; simp [h4])
            have HU := Lib.hid (pin14_any HS5.out.idx (i := o.id) HO.out.id o.is)
            unfold Upd14 at HU
            go_wp2_with fail
            refine HU.out.mono ?_
            rintro e w8 ⟨rfl, hI8, hk8⟩
            have HS8 := Lib.hid (HS5.out.step hI8 hk8 (fun s hs => hs) (fun i hi => .inl (mine_upd _ (pinU o.is) (fun _ => rfl) i hi)))
            have HO8 := Lib.hid (hk8.blk HO5.out (fun hs => HMO.out.1 _ hs rfl))
            clear hI8 hk8 HU o14 o15 o16 o17 o18 o19
            have o14 := HO8.out.cell 14
            have o15 := HO8.out.cell 15
            have o16 := HO8.out.cell 16
            have o17 := HO8.out.cell 17
            have o18 := HO8.out.cell 18
            have o19 := HO8.out.cell 19
            simp [opA] at o14 o15 o16 o17 o18 o19
            have HU := Lib.hid (rpin14_any HS8.out.ref HOM.out.uq HS8.out.idx.lt o.id o.is)
            go_wp2_with fail
            refine HU.out.mono ?_
            rintro e w9 ⟨rfl, hR9, hk9⟩
            have HS9 := Lib.hid (HS8.out.rstep hR9 hk9)
            have HO9 := Lib.hid (hk9.blk HO8.out (by simp; exact fun e => HMO.out.2 e.symm))
            clear hR9 hk9 HU
            go_wp2_with fail
            go_meet
            exact ⟨p, _, rfl, rfl, by rw [HSP.out]; exact HS9.out, HO9.out⟩
          · have hq4 : (o.what == 4) = false := by simpa using h4
            by_cases h5 : o.what = 5
            · have hq5 : (o.what == 5) = true := by simpa using h5
              have HSP := Lib.hid (show step14 o M = En.upd M o.id (classU o.cl) by unfold step14; simp [h5])
              have HU := Lib.hid (class14_any HS5.out.idx (i := o.id) HO.out.id o.cl)
              unfold Upd14 at HU
              go_wp2_with fail
              refine HU.out.mono ?_
              rintro e w8 ⟨rfl, hI8, hk8⟩
              have HS8 := Lib.hid (HS5.out.step hI8 hk8 (fun s hs => hs) (fun i hi => .inl (mine_upd _ (classU o.cl) (fun _ => rfl) i hi)))
              have HO8 := Lib.hid (hk8.blk HO5.out (fun hs => HMO.out.1 _ hs rfl))
              clear hI8 hk8 HU o14 o15 o16 o17 o18 o19
              have o14 := HO8.out.cell 14
              have o15 := HO8.out.cell 15
              have o16 := HO8.out.cell 16
              have o17 := HO8.out.cell 17
              have o18 := HO8.out.cell 18
              have o19 := HO8.out.cell 19
              simp [opA] at o14 o15 o16 o17 o18 o19
              have HU := Lib.hid (rclass14_any HS8.out.ref HOM.out.uq HS8.out.idx.lt o.id o.cl)
              go_wp2_with fail
              refine HU.out.mono ?_
              rintro e w9 ⟨rfl, hR9, hk9⟩
              have HS9 := Lib.hid (HS8.out.rstep hR9 hk9)
              have HO9 := Lib.hid (hk9.blk HO8.out (by simp; exact fun e => HMO.out.2 e.symm))
              clear hR9 hk9 HU
              go_wp2_with fail
              go_meet
              exact ⟨p, _, rfl, rfl, by rw [HSP.out]; exact HS9.out, HO9.out⟩
            · have hq5 : (o.what == 5) = false := by simpa using h5
              by_cases h6 : o.what = 6
              · have hq6 : (o.what == 6) = true := by simpa using h6
                have HSP := Lib.hid (show step14 o M = En.upd M o.id (moveU o.sq o.pl o.sz) by unfold step14; simp [h6])
                have HU := Lib.hid (move14_any HS5.out.idx (i := o.id) HO.out.id o.sq o.pl o.sz)
                unfold Upd14 at HU
                go_wp2_with fail
                refine HU.out.mono ?_
                rintro e w8 ⟨rfl, hI8, hk8⟩
                have HS8 := Lib.hid (HS5.out.step hI8 hk8 (fun s hs => hs) (fun i hi => .inl (mine_upd _ (moveU o.sq o.pl o.sz) (fun _ => rfl) i hi)))
                have HO8 := Lib.hid (hk8.blk HO5.out (fun hs => HMO.out.1 _ hs rfl))
                clear hI8 hk8 HU o14 o15 o16 o17 o18 o19
                have o14 := HO8.out.cell 14
                have o15 := HO8.out.cell 15
                have o16 := HO8.out.cell 16
                have o17 := HO8.out.cell 17
                have o18 := HO8.out.cell 18
                have o19 := HO8.out.cell 19
                simp [opA] at o14 o15 o16 o17 o18 o19
                have HU := Lib.hid (rmove14_any HS8.out.ref HOM.out.uq HS8.out.idx.lt o.id o.sq o.pl o.sz)
                go_wp2_with fail
                refine HU.out.mono ?_
                rintro e w9 ⟨rfl, hR9, hk9⟩
                have HS9 := Lib.hid (HS8.out.rstep hR9 hk9)
                have HO9 := Lib.hid (hk9.blk HO8.out (by simp; exact fun e => HMO.out.2 e.symm))
                clear hR9 hk9 HU
                go_wp2_with fail
                go_meet
                exact ⟨p, _, rfl, rfl, by rw [HSP.out]; exact HS9.out, HO9.out⟩
              · have hq6 : (o.what == 6) = false := by simpa using h6
                have HSP := Lib.hid (show step14 o M = En.put M o.t.e by unfold step14; simp [h3, h4, h5, h6])
                have HLP := Lib.hid (blk_op HO5.out)
                unfold enA at HLP
                rw [HSN.out] at HLP
                have HP := Lib.hid (put14_any HS5.out.idx (by intro s hs; rw [List.mem_singleton.1 hs]; exact HS5.out.ref.lt) HL1.out o.t.e HO.out.t.id o.t.A sn o.t.cap HSN.out ((HO.out.t.below HS5.out.be).svs (by rw [HSN.out]; exact H9.out)))
                unfold enA at HP
                clear o14 o15 o16 o17 o18 o19
                go_wp2_with (refine wpList_loadW rfl 35 _ rfl _ _ rfl HLP.out ?_)
                refine HP.out.mono ?_
                rintro e w8 ⟨rfl, pp, hI8, hk8, hm8⟩
                have HS8 := Lib.hid (HS5.out.step hI8 hk8 (by intro s hs; rw [List.mem_singleton.1 hs]; exact mem_mine.2 (.inr (.inl rfl))) hm8)
                have HO8 := Lib.hid (hk8.blk HO5.out (by have := HMO.out.1 b (mem_mine.2 (.inr (.inl rfl))); simp; exact fun e => this e.symm))
                clear hI8 hk8 hm8 HP HLP
                have HLP := Lib.hid (blk_op HO8.out)
                unfold enA at HLP
                rw [HSN.out] at HLP
                have HP := Lib.hid (rput14_any HS8.out.ref HOM.out HL1.out HS8.out.idx.lt o.t.e o.t.A sn o.t.cap HSN.out ((HO.out.t.below HS8.out.be).svs (by rw [HSN.out]; exact H9.out)) (Off.of HO.out.t.lies (by simpa using HS8.out.rnew)))
                unfold enA at HP
                go_wp2_with (refine wpList_loadW rfl 35 _ rfl _ _ rfl HLP.out ?_)
                refine HP.out.mono ?_
                rintro e w9 ⟨rfl, hR9, hk9⟩
                have HS9 := Lib.hid (HS8.out.rstep hR9 hk9)
                have HO9 := Lib.hid (hk9.blk HO8.out (by simp; exact fun e => HMO.out.2 e.symm))
                clear hR9 hk9 HP HLP
                go_wp2_with fail
                go_meet
                exact ⟨pp, _, rfl, rfl, by rw [HSP.out]; exact HS9.out, HO9.out⟩
      case rest =>
        obtain ⟨p', t, rfl, rfl, hst, hob⟩ := hcut
        have HSC := Lib.hid hst
        have HOC := Lib.hid hob
        have HOM' := Lib.hid (step14_ok HOM.out o)
        clear hst hob
        obtain ⟨M', hM'⟩ : ∃ M', step14 o M = M' := ⟨_, rfl⟩
        rw [hM'] at HRT HSC HOM'
        have o14 := HOC.out.cell 14
        simp [opA] at o14
        have htt : (t != t) = false := by simp
        obtain ⟨T, hT⟩ : ∃ T, (En.get M' o.id).isSome = T := ⟨_, rfl⟩
        obtain ⟨Y, hY⟩ : ∃ Y, got14 M' o.id = Y := ⟨_, rfl⟩
        have HY9 := Lib.hid (got14_few HSC.out.idx o.id)
        have HG := Lib.hid (get14_any HSC.out.idx (i := o.id) HO.out.id)
        have HRG := Lib.hid (fun (W : World) (hW : Below wc.heap.size wc W) => rget14_any (HSC.out.ref.below hW) HOM'.out.uq o.id)
        rw [hT, hY] at HG
        simp only [hT, hY] at HRG
        rw [hY] at HY9
        have hTT : (T != T) = false := by simp
        obtain ⟨yn, hyn⟩ : ∃ s, Y.sv.length = s := ⟨_, rfl⟩
        rw [hyn] at HG HY9
        simp only [hyn] at HRG
        have HYN := Lib.hid hyn
        clear hM' hT hY hyn HS5 HO5 HW5 hix
        go_wp2_with fail
        refine HG.out.mono ?_
        rintro e wg ⟨v, rfl, ho, dg⟩
        obtain ⟨Cg, kg, rfl, hsg, -⟩ := row_svs ho HYN.out HY9.out
        have hbg : Below wg.heap.size wg (wg.alloc (.cells (enA Y (.slice Cg yn kg)) 35)) := (Below.refl _ _).alloc (Nat.le_refl _) _
        have hxg := BoxE.new wg Y (.slice Cg yn kg)
        obtain ⟨WG, hWG⟩ : ∃ WG, wg.alloc (.cells (enA Y (.slice Cg yn kg)) 35) = WG := ⟨_, rfl⟩
        rw [hWG] at hbg hxg
        have HDG := Lib.hid (dg.trans (hbg.mono dg.size))
        have HXG := Lib.hid hxg
        have HSG := Lib.hid (hsg.below hbg)
        have HOG := Lib.hid ((Kept.of dg []).blk HOC.out (by simp))
        have o14g := HOG.out.cell 14
        have hogl := HOG.out.lt
        simp [opA] at o14g
        unfold enA at hWG ⊢
        have HWG := Lib.hid hWG
        have HBG := Lib.hid (show wg.heap.size < WG.heap.size from hxg.lt)
        clear ho hsg hbg hxg hWG dg HG o14
        go_wp2_with fail
        rw [HWG.out]
        refine (HRG.out WG HDG.out).mono ?_
        rintro e wh ⟨v, rfl, ho, dh⟩
        obtain ⟨Ch, kh, rfl, hsh, -⟩ := row_svs ho HYN.out HY9.out
        have hbh : Below wh.heap.size wh (wh.alloc (.cells (enA Y (.slice Ch yn kh)) 35)) := (Below.refl _ _).alloc (Nat.le_refl _) _
        have hxh := BoxE.below HXG.out dh
        have hol := hxh.lt
        obtain ⟨b0, b1, b2, b3, b4, b5, b6, b7, b8, b9, b10, b11, b12⟩ := BoxE.all hxh
        obtain ⟨WH, hWH⟩ : ∃ WH, wh.alloc (.cells (enA Y (.slice Ch yn kh)) 35) = WH := ⟨_, rfl⟩
        rw [hWH] at hbh
        have hdh := dh.trans (hbh.mono dh.size)
        have HSE := Lib.hid (sameE_any Y Y Cg Ch yn yn kg kh WH HYN.out HYN.out ((HSG.out).below hdh) (hsh.below hbh))
        have HSH := Lib.hid (HSC.out.below (HDG.out.trans (hdh.mono HDG.out.size)))
        have hyy : decide (Y = Y) = true := by simp
        rw [hyy] at HSE
        unfold enA at hWH HSE ⊢
        have HWH := Lib.hid hWH
        clear ho hsh hbh hxh hWH dh hdh hyy HRG HXG HSG HOG o14g hogl HBG
        go_wp2_with fail
        rw [HWH.out]
        clear b0 b1 b2 b3 b4 b5 b6 b7 b8 b9 b10 b11 b12 hol HWH HWG
        refine HSE.out.mono ?_
        rintro e w4 ⟨rfl, d4⟩
        have HS4 := Lib.hid (HSH.out.below d4)
        clear d4 HSH HSE
        have HM1 := Lib.hid (many14_any HS4.out.idx)
        have HM2 := Lib.hid (rmany14_any HS4.out.ref)
        have HI1 := Lib.hid (in14_any HS4.out.idx s)
        have HI2' := Lib.hid (fun (W : World) (hW : Below w4.heap.size w4 W) => rin14_any (HS4.out.ref.below hW) HOM'.out.uq s)
        obtain ⟨L, hL⟩ : ∃ L, M'.length = L := ⟨_, rfl⟩
        rw [hL] at HM1 HM2
        obtain ⟨J, hJ⟩ : ∃ J, inn M' s = J := ⟨_, rfl⟩
        rw [hJ] at HI1
        simp only [hJ] at HI2'
        obtain ⟨jn, hjn⟩ : ∃ jn, J.length = jn := ⟨_, rfl⟩
        have HJN := Lib.hid hjn
        have hll : ((L : Int) != (L : Int)) = false := by simp
        clear hL hJ hjn
        go_wp2_with fail
        refine HM1.out.mono ?_
        rintro e w5 ⟨rfl, rfl⟩
        go_wp2_with fail
        refine HM2.out.mono ?_
        rintro e w6 ⟨rfl, rfl⟩
        go_wp2_with fail
        refine HI1.out.mono ?_
        rintro e w7 ⟨v, rfl, ho, d7⟩
        obtain ⟨A1, c1, rfl, h11, h12, hl1⟩ := row_lies ho
        rw [HJN.out] at h11 ⊢
        have HO1 := Lib.hid (And.intro h11 (And.intro h12 hl1))
        have HD7 := Lib.hid d7
        clear ho h11 h12 hl1 d7
        go_wp2_with fail
        refine (HI2'.out w7 HD7.out).mono ?_
        rintro e w8 ⟨v, rfl, ho, d8⟩
        obtain ⟨A2, c2, rfl, h11, h12, hl1⟩ := row_lies ho
        rw [HJN.out] at h11 ⊢
        have HSI := Lib.hid (sameIds_any A1 A2 jn jn c1 c2 J J w8 HJN.out HJN.out HO1.out.1 h11 HO1.out.2.1 h12 (HO1.out.2.2.below d8) hl1)
        have hyy : decide (J = J) = true := by simp
        rw [hyy] at HSI
        have HS8 := Lib.hid (HS4.out.below (HD7.out.trans (d8.mono HD7.out.size)))
        clear ho h11 h12 hl1 d8 hyy HO1 HD7 HI1 HI2' HM1 HM2 HS4
        go_wp2_with fail
        refine HSI.out.mono ?_
        rintro e w9 ⟨rfl, d9⟩
        have HS9 := Lib.hid (HS8.out.below d9)
        clear d9 HSI HS8
        go_wp2
        go_roundw
        case rel => exact ⟨k + 1, p', by go_num, by omega, by rw [HRT.out]; exact HS9.out⟩
        case measure => simp [intOf]; omega
    · obtain rfl : k = n := by omega
      rw [List.take_of_length_le (by rw [HN.out]; omega)] at HS
      have HML := Lib.hid (run14_len l)
      obtain ⟨M, hM⟩ : ∃ M, run14 l = M := ⟨_, rfl⟩
      rw [hM] at HS HML
      have HA1 := Lib.hid (all14_any HS.out.idx)
      have HA2 := Lib.hid (fun (W : World) (hW : Below wr.heap.size wr W) => rall14_any (HS.out.ref.below hW))
      have HT1 := Lib.hid (fun (W : World) (hW : Below wr.heap.size wr W) => items14_any (HS.out.idx.below hW))
      have HT2 := Lib.hid (fun (W : World) (hW : Below wr.heap.size wr W) => ritems14_any (HS.out.ref.below hW))
      have HBE := Lib.hid HS.out.be
      obtain ⟨mn, hmn⟩ : ∃ mn, M.length = mn := ⟨_, rfl⟩
      rw [hmn] at HA1
      simp only [hmn] at HA2 HT1 HT2
      have HMN := Lib.hid hmn
      clear hM hlt hmn HS HML
      go_wp2_with fail
      refine HA1.out.mono ?_
      rintro e wa ⟨v, ts, rfl, ho, hts, hsv, da⟩
      obtain ⟨A1, c1, rfl, h11, h12, hl1, -⟩ := row_form ho
      have htn : ts.length = mn := by rw [← HMN.out, ← hts, List.length_map]
      have HL1 := Lib.hid (And.intro htn (And.intro h11 (And.intro h12 (And.intro (lies_of hl1 htn) (And.intro hts (fun t ht => (hsv t ht).1))))))
      have HDA := Lib.hid da
      clear ho hts hsv da h11 h12 hl1 htn HA1
      go_wp2_with fail
      refine (HA2.out wa HDA.out).mono ?_
      rintro e wb ⟨v, us, rfl, ho, hus, hsv, db⟩
      obtain ⟨A2, c2, rfl, h11, h12, hl1, -⟩ := row_form ho
      have hun : us.length = mn := by rw [← HMN.out, ← hus, List.length_map]
      have HSM := Lib.hid (same14_any A1 A2 mn mn c1 c2 ts us wb HL1.out.1 hun HL1.out.2.1 h11 HL1.out.2.2.1 h12 (HL1.out.2.2.2.1.below db) (lies_of hl1 hun) (fun t ht => (HL1.out.2.2.2.2.2 t ht).below db) (fun t ht => (hsv t ht).1))
      rw [HL1.out.2.2.2.2.1, hus, show decide (M = M) = true by simp] at HSM
      have HDB := Lib.hid (HDA.out.trans (db.mono HDA.out.size))
      clear ho hus hsv db h11 h12 hl1 hun HA2 HL1 HDA
      go_wp2_with fail
      refine HSM.out.mono ?_
      rintro e wc ⟨rfl, dc⟩
      have HDC := Lib.hid (HDB.out.trans (dc.mono HDB.out.size))
      clear dc HDB HSM
      go_wp2_with fail
      refine (HT1.out wc HDC.out).mono ?_
      rintro e wd ⟨v, rfl, ho, dd⟩
      obtain ⟨A1, c1, rfl, h11, h12, hl1, -⟩ := row_form ho
      have hin : (M.map itemE).length = mn := by rw [List.length_map]; exact HMN.out
      have HL1 := Lib.hid (And.intro h11 (And.intro h12 (lies_ofI hl1 hin)))
      have HDD := Lib.hid (HDC.out.trans (dd.mono HDC.out.size))
      clear ho dd h11 h12 hl1 hin HT1 HDC
      go_wp2_with fail
      refine (HT2.out wd HDD.out).mono ?_
      rintro e we ⟨v, rfl, ho, de⟩
      obtain ⟨A2, c2, rfl, h11, h12, hl1, -⟩ := row_form ho
      have hin : (M.map itemE).length = mn := by rw [List.length_map]; exact HMN.out
      have HSM := Lib.hid (same_any A1 A2 mn mn c1 c2 _ _ we hin hin HL1.out.1 h11 HL1.out.2.1 h12 (HL1.out.2.2.below de) (lies_ofI hl1 hin))
      rw [show decide (M.map itemE = M.map itemE) = true by simp] at HSM
      have HDE := Lib.hid (HDD.out.trans (de.mono HDD.out.size))
      clear ho de h11 h12 hl1 hin HT2 HDD HL1
      go_wp2_with fail
      refine HSM.out.mono ?_
      rintro e wf ⟨rfl, df⟩
      have HBF := Lib.hid (HBE.out.trans ((HDE.out.trans (df.mono HDE.out.size)).mono HBE.out.size))
      clear df HDE HSM HBE
      go_wp2
      go_ret
      exact ⟨rfl, HBF.out⟩

theorem walk (w : World) (A : Option Addr) (cap : Nat) (l : List Opq) (hl : l.length ≤ cap) (hm : cap ≤ maxLen) (hA : Lies w A (flatO l)) (hQ : ∀ o ∈ l, OpIn w o) (s : Int) (_hs : -9223372036854775808 ≤ s ∧ s ≤ 9223372036854775807) :
    Calls Try.prog 3 #[.slice A l.length cap, .int .i64 s] w fun e w' => e = .returned (.bool true) ∧ Below w.heap.size w w' :=
  walkN w A l.length cap l s rfl hl hm hA hQ


set_option maxRecDepth 100000 in
theorem lifted (os : Os) (started : os.Started) (H : Type) (enc : TypeId × Value → H) :
    ReturnsInHanded {} Try.checked os 3 .any (Rows.entryPlaysSpec.pre6 enc Try.prog Try.f3 Rows.entryPlaysRow.domain false) (Rows.entryPlaysSpec.post enc Try.prog Try.f3 false true false false) := by
  refine returnsInHanded_of_change (C := Try.checked) own started (by kernel_rfl) Try.func3
    (ChangeSpec.witness6 (enc := enc) (C := Try.checked) false ⟨#[], #[.slice none 0 0, .int .i64 0], []⟩ 8 (by kernel_rfl) (by kernel_rfl) (by kernel_rfl) (by kernel_rfl)) ?_
  intro W base args ds gs before hval0 hW hcnd _
  have hval : ∀ (j : Nat) t v, Try.f3.params[j]? = some t → args[j]? = some v → Value.okWide Try.prog W .any base t v := hval0
  have hfin := fun W' => law_post (enc := enc) (P := Try.prog) (f := Try.f3) (s := Rows.entryPlaysSpec) (tb := 4) (W := W) (W' := W') (args := args) (ds := ds) (gs := gs) (before := before) laidOut rfl (by kernel_rfl) Try.underlying4 (by kernel_rfl) (fun xs h => by rw [Try.params3] at h; match xs, h with | [_, _], _ => rfl) hW
  have hlt : ∀ x ∈ before, x.block < W.heap.size := fun x hx => hW.lt x hx
  obtain ⟨p, q, hA0, hV, rfl, hfz, hnd⟩ := hW
  have hA : DataW.TrodAll enc Try.prog W 0 (fun _ => true) true Try.f3.params.toList args.toList ds p := hA0
  rw [Try.params3] at hA hval
  obtain ⟨v0, vs0, d0, ds0, p0, q0, hargs, rfl, rfl, h0, r0⟩ := trodAll_cons hA
  obtain ⟨v1, vs1, d1, ds1, p1, q1, rfl, rfl, rfl, h1, r1⟩ := trodAll_cons r0
  obtain ⟨rfl, rfl, rfl⟩ := trodAll_nil r1
  obtain rfl : args = #[v0, v1] := by cases args; simp_all
  obtain ⟨A0, cap0, l0, rfl, hl0, hm0, hB0, hQ0⟩ := open_ops14 (hval 0 22 v0 rfl rfl) h0 (fun x hx => hlt x (by simp [hx]))
  obtain ⟨a1, rfl, rfl, rfl, w1⟩ := open_int Try.underlying2 (hval 1 2 v1 rfl rfl) h1
  refine (walk W A0 cap0 l0 hl0 hm0 hB0 hQ0 a1 (bounds_i64 w1)).mono fun e W' ⟨he, hg⟩ => ?_
  subst he
  exact ⟨_, rfl, hfin W' hg⟩

theorem proved : Rows.EntryPlaysSaid :=
  OpenClaim.holds_of_wide 3 Try.f3 rfl rfl rfl rfl rfl rfl rfl ⟨rfl, rfl, rfl, rfl, rfl⟩ rfl rfl rfl rfl rfl (by kernel_rfl) Try.func3 (by kernel_rfl)
    (of_decide_eq_true (by kernel_rfl)) (by unfold Func.isWrapper; first | (rw [if_pos (by decide +kernel)]; kernel_rfl) | (rw [if_neg (by decide +kernel)]; exact ⟨rfl, rfl⟩))
    (fun os started H enc _ => lifted os started H enc)
#print axioms proved
end Go.Proofs.Ytepfbpljkhchbaa.entryPlays
