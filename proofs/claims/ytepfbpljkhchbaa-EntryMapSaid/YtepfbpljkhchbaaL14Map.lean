/-
  P14.2, EntryMap: for all calls and any Id the law returns true: an entry is as it was put last, and changed since; others are as they were. No condition.
-/
import Derived.Test.YtepfbpljkhchbaaLwF
import Derived.BigRegion
import Derived.Deep.CutRange
import Derived.Deep.WholeRow
import Derived.Deep.CutBlock
namespace Go.Proofs.Ytepfbpljkhchbaa.entryMap
open Go.ChangeShapes Go.WideShapes Go.ChangeAt Go.RowKit Go.Maps En
set_option maxRecDepth 100000

/-- the index beside an entry of the law's own -/
structure MapSt (w0 : World) (x b : Nat) (p : Int → Nat) (M : List E) (WB : Nat) (y : E) (A : Option Addr) (n c : Nat) (W : World) : Prop where
  idx : IsIdx [WB] W x b p M
  new : ∀ i ∈ mine x b p M, w0.heap.size ≤ i
  be : Below w0.heap.size w0 W
  bx : BoxE W WB y (.slice A n c)
  len : y.sv.length = n
  sv : Svs w0 y.sv A c
  wl : w0.heap.size ≤ WB
theorem MapSt.below {w0 : World} {x b : Nat} {p : Int → Nat} {M : List E} {WB : Nat} {y : E} {A : Option Addr} {n c : Nat} {W W' : World} (h : MapSt w0 x b p M WB y A n c W) (k : Below W.heap.size W W') : MapSt w0 x b p M WB y A n c W' :=
  ⟨h.idx.below k, h.new, h.be.trans (k.mono h.be.size), h.bx.below k, h.len, h.sv, h.wl⟩
theorem MapSt.step {w0 : World} {x b : Nat} {p p' : Int → Nat} {M M' : List E} {WB : Nat} {y : E} {A : Option Addr} {n c : Nat} {W W' : World} {S : List Nat} (h : MapSt w0 x b p M WB y A n c W) (hI : IsIdx [WB] W' x b p' M') (hk : Kept S W W') (hS : ∀ s ∈ S, s ∈ mine x b p M) (hm : ∀ i ∈ mine x b p' M', i ∈ mine x b p M ∨ W.heap.size ≤ i) : MapSt w0 x b p' M' WB y A n c W' :=
  ⟨hI, fun i hi => (hm i hi).elim (h.new i) (fun h' => Nat.le_trans h.be.size h'), Kept.below h.be hk (fun s hs => h.new s (hS s hs)), hk.blk h.bx (fun hs => h.idx.out _ (hS _ hs) (by simp)), h.len, h.sv, h.wl⟩
theorem MapSt.write {w0 : World} {x b : Nat} {p : Int → Nat} {M : List E} {WB : Nat} {y y' : E} {A A' : Option Addr} {n c n' c' : Nat} {W W' : World} (h : MapSt w0 x b p M WB y A n c W) (hk : Kept [WB] W W') (hB : BoxE W' WB y' (.slice A' n' c')) (hl : y'.sv.length = n') (hs : Svs w0 y'.sv A' c') : MapSt w0 x b p M WB y' A' n' c' W' :=
  ⟨h.idx.keep hk (by simp), h.new, Kept.below h.be hk (by simpa using h.wl), hB, hl, hs, h.wl⟩

/-- a call, read whole in its row, and laid into a box of its own -/
theorem run_opLoad (w : World) (q : Addr) (o : Opq) (sn : Nat) (hs : o.t.e.sv.length = sn) (h : ∀ j c, (opCells o)[j]? = some c → w.cell? (q.add j) = some c) : (Instr.loadAt 37 (.pointer (some q))).run Try.prog w = .ok (.agg #[.int .i64 o.what, .int .i64 o.t.e.id, .int .i64 o.t.e.cl, .int .i64 o.t.e.tick, .int .i64 o.t.e.cost, .bool o.t.e.pin, .int .i64 o.t.e.bid, .int .i64 o.t.e.lo, .int .i64 o.t.e.hi, .int .i64 o.t.e.many, .slice o.t.A sn o.t.cap, .int .i64 o.t.e.seq, .int .i64 o.t.e.pl, .int .i64 o.t.e.sz, .int .i64 o.id, .bool o.is, .int .i64 o.cl, .int .i64 o.sq, .int .i64 o.pl, .int .i64 o.sz]) w := by
  subst hs
  have hl : (loadCells q 20).run Try.prog w = .ok (opCells o).toArray w := run_loadCells_list (P := Try.prog) w q (opCells o) h
  have hi : (Try.prog.info? 37).map (·.size) = some 20 := by kernel_rfl
  have hagg : (isAgg 37).run Try.prog w = .ok true w := by
    unfold isAgg
    rw [Sem.run_bind, run_underlying Try.underlying37 w]
    rfl
  cases hq : Try.prog.info? 37 with
  | none => rw [hq] at hi; cases hi
  | some i =>
    have hs : i.size = 20 := by simpa [hq] using hi
    simp only [Instr.loadAt, Instr.sureAddr, Sem.run_bind, Sem.run_pure, Result.andThen_ok]
    simp [loadVar, Sem.run_bind, hagg, sizeOf, typeInfo, hq, hs, hl, opCells, opA]
theorem run_opStore (w : World) (o : Opq) (sn : Nat) : (Instr.storeAt 37 (.pointer (some ⟨w.heap.size, 0, none⟩)) (.agg #[.int .i64 o.what, .int .i64 o.t.e.id, .int .i64 o.t.e.cl, .int .i64 o.t.e.tick, .int .i64 o.t.e.cost, .bool o.t.e.pin, .int .i64 o.t.e.bid, .int .i64 o.t.e.lo, .int .i64 o.t.e.hi, .int .i64 o.t.e.many, .slice o.t.A sn o.t.cap, .int .i64 o.t.e.seq, .int .i64 o.t.e.pl, .int .i64 o.t.e.sz, .int .i64 o.id, .bool o.is, .int .i64 o.cl, .int .i64 o.sq, .int .i64 o.pl, .int .i64 o.sz])).run Try.prog (w.alloc (.cells #[.int .i64 0, .int .i64 0, .int .i64 0, .int .i64 0, .int .i64 0, .bool false, .int .i64 0, .int .i64 0, .int .i64 0, .int .i64 0, .slice none 0 0, .int .i64 0, .int .i64 0, .int .i64 0, .int .i64 0, .bool false, .int .i64 0, .int .i64 0, .int .i64 0, .int .i64 0] 37)) = .ok () (w.alloc (.cells #[.int .i64 o.what, .int .i64 o.t.e.id, .int .i64 o.t.e.cl, .int .i64 o.t.e.tick, .int .i64 o.t.e.cost, .bool o.t.e.pin, .int .i64 o.t.e.bid, .int .i64 o.t.e.lo, .int .i64 o.t.e.hi, .int .i64 o.t.e.many, .slice o.t.A sn o.t.cap, .int .i64 o.t.e.seq, .int .i64 o.t.e.pl, .int .i64 o.t.e.sz, .int .i64 o.id, .bool o.is, .int .i64 o.cl, .int .i64 o.sq, .int .i64 o.pl, .int .i64 o.sz] 37)) :=
  run_storeAt_new (P := Try.prog) w 37 #[.int .i64 0, .int .i64 0, .int .i64 0, .int .i64 0, .int .i64 0, .bool false, .int .i64 0, .int .i64 0, .int .i64 0, .int .i64 0, .slice none 0 0, .int .i64 0, .int .i64 0, .int .i64 0, .int .i64 0, .bool false, .int .i64 0, .int .i64 0, .int .i64 0, .int .i64 0] #[.int .i64 o.what, .int .i64 o.t.e.id, .int .i64 o.t.e.cl, .int .i64 o.t.e.tick, .int .i64 o.t.e.cost, .bool o.t.e.pin, .int .i64 o.t.e.bid, .int .i64 o.t.e.lo, .int .i64 o.t.e.hi, .int .i64 o.t.e.many, .slice o.t.A sn o.t.cap, .int .i64 o.t.e.seq, .int .i64 o.t.e.pl, .int .i64 o.t.e.sz, .int .i64 o.id, .bool o.is, .int .i64 o.cl, .int .i64 o.sq, .int .i64 o.pl, .int .i64 o.sz] (by kernel_rfl) rfl (by simp [Value.oneCell'])
theorem blk_op {W : World} {b : Nat} {o : Opq} (h : Blk W b (opA o) 37) : (Instr.loadAt 35 (.pointer (some ⟨b, 1, none⟩))).run Try.prog W = .ok (.agg (enA o.t.e (.slice o.t.A o.t.e.sv.length o.t.cap))) W :=
  run_loadOp W ⟨b, 0, none⟩ o (fun j c hc => by
    have e : (⟨b, 0, none⟩ : Addr).add j = ⟨b, j, none⟩ := by unfold Addr.add; split <;> simp_all
    rw [e, h.cell j]
    simpa [opCells] using hc)
theorem wpList_loadW {w : World} {ops : Array Oper} {rest : List Oper} {o : Oper} {a : Act} {Q : Exit → Act → World → Prop} (hg : o.guard = none) (t : TypeId) (x : Operand) (ho : o.op = .load t x) (p v : Value) (hx : a.eval x = p) (hr : (Instr.loadAt t p).run Try.prog w = .ok v w)
    (hK : wpList Try.prog ops Q rest (a.put o.dst v) w) : wpList Try.prog ops Q (o :: rest) a w := by
  refine wpList_plain hg fun K hK' => ?_
  unfold Oper.wp
  simp [execOp, ho, hx, hr, Result.andThen]
  exact hK' _ _ hK
theorem wpList_storeW {w w2 : World} {ops : Array Oper} {rest : List Oper} {o : Oper} {a : Act} {Q : Exit → Act → World → Prop} (hg : o.guard = none) (t : TypeId) (x y : Operand) (ho : o.op = .store t x y) (p v : Value) (hx : a.eval x = p) (hy : a.eval y = v) (hr : (Instr.storeAt t p v).run Try.prog w = .ok () w2)
    (hK : wpList Try.prog ops Q rest (a.put o.dst undef) w2) : wpList Try.prog ops Q (o :: rest) a w := by
  refine wpList_plain hg fun K hK' => ?_
  unfold Oper.wp
  simp [execOp, ho, hx, hy, hr, Result.andThen]
  exact hK' _ _ hK

set_option maxHeartbeats 16000000 in
theorem walkN (w : World) (A : Option Addr) (n cap : Nat) (l : List Opq) (id : Int) (hn : l.length = n) (hl : n ≤ cap) (hm : cap ≤ maxLen) (hA : Lies w A (flatO l)) (hQ : ∀ o ∈ l, OpIn w o) (hid : I64 id) :
    Calls Try.prog 4 #[.slice A n cap, .int .i64 id] w fun e w' => e = .returned (.bool true) ∧ Below w.heap.size w w' := by
  have HA := Lib.hid hA
  have HN := Lib.hid hn
  have HQ := Lib.hid hQ
  have HNM := Lib.hid (show n ≤ maxLen from Nat.le_trans hl hm)
  clear hA hn hQ hl hm
  go_enter Try.func4, Try.ntmps4
  go_wp2_with fail
  refine (head14_any w).mono ?_
  rintro e w1 ⟨rfl, d1⟩
  have HB1 := Lib.hid d1
  clear d1
  go_wp2_with fail
  refine (new14_any [] w1 (by simp)).mono ?_
  rintro e w2 ⟨x, b, rfl, hI2, hx, hbx, d2⟩
  have HI2 := Lib.hid hI2
  have HB2 := Lib.hid (HB1.out.trans (d2.mono HB1.out.size))
  have HBB := Lib.hid (And.intro (Nat.le_trans HB1.out.size hx) (Nat.le_trans HB1.out.size hbx))
  clear hI2 hx hbx d2
  go_wp2_with fail
  refine (great14_any A n cap l w2 HN.out HNM.out (HA.out.below HB2.out) (fun o ho => (HQ.out o ho).t.below HB2.out)).mono ?_
  rintro e w3 ⟨r, rfl, hr, rfl⟩
  rcases r with _ | _
  rotate_left
  · have HB := HB2.out
    go_wp2
    go_ret
    exact ⟨rfl, HB⟩
  have HR := Lib.hid (hr rfl)
  have hn200 := HR.out.1
  clear hr
  have hzb := BoxE.new w3 E.zero (.slice none 0 0)
  have hbz : Below w3.heap.size w3 (w3.alloc (.cells (enA E.zero (.slice none 0 0)) 35)) := (Below.refl _ _).alloc (Nat.le_refl _) _
  have HST := Lib.hid (show MapSt w x b (fun _ => 0) [] w3.heap.size (got14 [] id) none 0 0 (w3.alloc (.cells (enA E.zero (.slice none 0 0)) 35)) from
    ⟨(HI2.out.more (R' := [w3.heap.size]) (by simp)).below hbz, (fun i hi => by
      rcases mem_mine.1 hi with rfl | rfl | ⟨e, he, -⟩
      · exact HBB.out.1
      · exact HBB.out.2
      · cases he), HB2.out.trans (hbz.mono HB2.out.size), hzb, rfl, ⟨by simp [got14, En.get, E.zero], by simp [got14, En.get, E.zero], by simp, .inl rfl⟩, HB2.out.size⟩)
  unfold enA E.zero at HST
  clear hzb hbz HI2 HB2
  go_wp2
  obtain ⟨W4, hW4⟩ : ∃ W4, w3.alloc (.cells #[.int .i64 0, .int .i64 0, .int .i64 0, .int .i64 0, .bool false, .int .i64 0, .int .i64 0, .int .i64 0, .int .i64 0, .slice none 0 0, .int .i64 0, .int .i64 0, .int .i64 0] 35) = W4 := ⟨_, rfl⟩
  obtain ⟨WB, hWB⟩ : ∃ WB, w3.heap.size = WB := ⟨_, rfl⟩
  rw [hW4, hWB] at HST ⊢
  clear hW4 hWB
  go_loopw [8, 9] (fun s8 s9 wr => ∃ (k : Nat) (p : Int → Nat) (A' : Option Addr) (n' c' : Nat), s9 = .int .i64 (k : Int) ∧ k ≤ n ∧ s8 = .bool (En.get (run14 (l.take k)) id).isSome ∧ MapSt w x b p (run14 (l.take k)) WB (got14 (run14 (l.take k)) id) A' n' c' wr) (fun _ i _ => n - (intOf i).toNat)
  case atStart => exact ⟨0, _, none, 0, 0, rfl, Nat.zero_le _, rfl, HST.out⟩
  case round =>
    obtain ⟨k, p, wA, wn, wc, rfl, hk, rfl, hst⟩ := hrel
    have HS := Lib.hid hst
    clear hst HST
    by_cases hlt : k < n
    · have hkl : k < l.length := by rw [HN.out]; exact hlt
      obtain ⟨ad, rfl, hadb, hcl⟩ := at_op HA.out k hkl
      have HIX := Lib.hid (fun (W : World) => show (Instr.indexAt 22 (.slice (some ad) n cap) (.int .i64 (k : Int))).run Try.prog W = .ok (.pointer (some (ad.add (k * 20)))) W by go_simp)
      have hix := HIX.out
      have HRT := Lib.hid (run14_take l k hkl)
      have HO := Lib.hid (HQ.out l[k] (List.getElem_mem hkl))
      have H9 := Lib.hid (HR.out.2 l[k] (List.getElem_mem hkl))
      have HL1 := Lib.hid (show (run14 (l.take k)).length < 1000 by have := run14_len (l.take k); simp at this; omega)
      have HOM := Lib.hid (run14_ok (l.take k))
      have hop := hcl wr HS.out.be
      clear hcl
      obtain ⟨M, hM⟩ : ∃ M, run14 (l.take k) = M := ⟨_, rfl⟩
      obtain ⟨o, ho⟩ : ∃ o, l[k] = o := ⟨_, rfl⟩
      rw [hM] at HS HRT HL1 HOM
      rw [ho] at HRT HO H9 hop
      simp only [hM]
      clear hM ho
      generalize ad.add (k * 20) = q at *
      obtain ⟨sn, hsn⟩ : ∃ sn, o.t.e.sv.length = sn := ⟨_, rfl⟩
      rw [hsn] at H9
      have HSN := Lib.hid hsn
      have HLD := Lib.hid (run_opLoad wr q o sn hsn hop)
      have HSO := Lib.hid (run_opStore wr o sn)
      clear hop
      have hbo : Below wr.heap.size wr (wr.alloc (.cells (opA o) 37)) := (Below.refl _ _).alloc (Nat.le_refl _) _
      have hob := Blk.new wr (opA o) 37
      have HMO := Lib.hid (show ∀ i ∈ mine x b p M, i ≠ wr.heap.size from fun i hi => by have := HS.out.idx.lt i hi; omega)
      obtain ⟨W5, hW5⟩ : ∃ W5, wr.alloc (.cells (opA o) 37) = W5 := ⟨_, rfl⟩
      rw [hW5] at hbo hob
      have HS5 := Lib.hid (HS.out.below hbo)
      have HO5 := Lib.hid hob
      unfold opA at hW5
      simp only [hsn] at hW5
      have HW5 := Lib.hid hW5
      have HG := Lib.hid (get14_any HS5.out.idx (i := o.id) HO.out.id)
      have HGL := Lib.hid (show ∀ i, (got14 M i).sv.length ≤ 9000 from fun i => got14_few HS5.out.idx i)
      clear hsn hbo hob hW5 HS
      go_wp2_with (first | refine wpList_loadW rfl 37 _ rfl _ _ rfl HLD.out ?_ | refine wpList_storeW rfl 37 _ _ rfl _ _ rfl rfl HSO.out ?_)
      rw [HW5.out]
      clear HLD HSO
      refine HG.out.mono ?_
      rintro e w6 ⟨v, rfl, ho, d6⟩
      obtain ⟨C6, k6, rfl, -, -⟩ := row_svs ho rfl (HGL.out o.id)
      obtain ⟨sn6, hsn6⟩ : ∃ s, (got14 M o.id).sv.length = s := ⟨_, rfl⟩
      obtain ⟨y6, hy6⟩ : ∃ y, got14 M o.id = y := ⟨_, rfl⟩
      rw [hsn6, hy6]
      have hb7 : Below w6.heap.size w6 (w6.alloc (.cells (enA y6 (.slice C6 sn6 k6)) 35)) := (Below.refl _ _).alloc (Nat.le_refl _) _
      obtain ⟨W7, hW7⟩ : ∃ W7, w6.alloc (.cells (enA y6 (.slice C6 sn6 k6)) 35) = W7 := ⟨_, rfl⟩
      rw [hW7] at hb7
      have dA := d6.trans (hb7.mono d6.size)
      have HS7 := Lib.hid (HS5.out.below dA)
      have HO7 := Lib.hid ((Kept.of dA []).blk HO5.out (by simp))
      have HO6 := Lib.hid ((Kept.of d6 []).blk HO5.out (by simp))
      obtain ⟨G, hG⟩ : ∃ G, (En.get M o.id).isSome = G := ⟨_, rfl⟩
      rw [hG]
      have HGG := Lib.hid hG
      obtain ⟨T, hT⟩ : ∃ T, (En.get M id).isSome = T := ⟨_, rfl⟩
      rw [hT]
      have HTT := Lib.hid hT
      unfold enA at hW7 ⊢
      have HW7 := Lib.hid hW7
      have o0 : w6.cell? ⟨wr.heap.size, 0, none⟩ = some (.int .i64 o.what) := HO6.out.cell 0
      have hol := HO6.out.lt
      clear ho d6 hb7 hW7 dA HS5 HO5 HO6 hsn6 hy6 hG hT HG
      have hgg : (G != G) = false := by simp
      have o14 := HO7.out.cell 14
      have o15 := HO7.out.cell 15
      have o16 := HO7.out.cell 16
      have o17 := HO7.out.cell 17
      have o18 := HO7.out.cell 18
      have o19 := HO7.out.cell 19
      have o1 := HO7.out.cell 1
      simp [opA] at o1 o14 o15 o16 o17 o18 o19
      go_upto_block 2 with (fail)
      rw [HW7.out]
      go_cut [8] from 30 to 171 (fun s8 wc => ∃ p' A' n' c', s8 = .bool (En.get (step14 o M) id).isSome ∧ MapSt w x b p' (step14 o M) WB (got14 (step14 o M) id) A' n' c' wc)
      case first =>
        by_cases h3 : o.what = 3
        · have hq3 : (o.what == 3) = true := by simpa using h3
          have HSP := Lib.hid (show step14 o M = En.del M o.id by unfold step14; rw [if_pos h3])
          have HU := Lib.hid (del14_any HS7.out.idx (i := o.id) HO.out.id)
          go_wp2_with fail
          refine HU.out.mono ?_
          rintro e w8 ⟨rfl, hI8, hk8⟩
          rw [HGG.out]
          have HS8 := Lib.hid (HS7.out.step hI8 hk8 (by intro s hs; rw [List.mem_singleton.1 hs]; exact mem_mine.2 (.inr (.inl rfl))) (fun i hi => .inl (mine_del _ i hi)))
          have HO8 := Lib.hid (hk8.blk HO7.out (by have := HMO.out b (mem_mine.2 (.inr (.inl rfl))); simp; exact fun e => this e.symm))
          have o14 := HO8.out.cell 14
          have hbx := HS8.out.bx
          obtain ⟨b0, b1, b2, b3, b4, b5, b6, b7, b8, b9, b10, b11, b12⟩ := hbx.all
          obtain ⟨f0, f1, f2, f3, f4, f5, f6, f7, f8, f9, f10, f11, f12⟩ := hbx.melt
          simp [opA] at o14
          clear hI8 hk8 hbx HU
          by_cases hid : o.id = id
          · have hqi : (o.id == id) = true := by simpa using hid
            have HBX := Lib.hid (BoxE.over HS8.out.bx E.zero (.slice none 0 0))
            have HKX := Lib.hid (kept13 w8 WB E.zero (.slice none 0 0))
            unfold E.zero at HBX HKX
            dsimp only at HBX HKX
            go_wp2_with fail
            go_meet
            refine ⟨p, none, 0, 0, ?_, ?_⟩
            · rw [HSP.out, is_del HOM.out.uq, if_pos hid]
            · rw [HSP.out, got_del HOM.out.uq, if_pos hid]
              exact HS8.out.write (y' := E.zero) HKX.out HBX.out rfl ⟨by simp [E.zero], by simp [E.zero], by simp, .inl rfl⟩
          · have hqi : (o.id == id) = false := by simpa using hid
            have HSP2 := Lib.hid (And.intro (is_del HOM.out.uq o.id id) (got_del HOM.out.uq o.id id))
            rw [if_neg hid, if_neg hid] at HSP2
            go_wp2_with fail
            go_meet
            refine ⟨p, wA, wn, wc, ?_, ?_⟩
            · rw [HSP.out, HSP2.out.1, HTT.out]
            · rw [HSP.out, HSP2.out.2]
              exact HS8.out
        · have hq3 : (o.what == 3) = false := by simpa using h3
          by_cases h4 : o.what = 4
          · have hq4 : (o.what == 4) = true := by simpa using h4
            have HSP := Lib.hid (show step14 o M = En.upd M o.id (pinU o.is) by unfold step14; simp [h4])
            have HU := Lib.hid (pin14_any HS7.out.idx (i := o.id) HO.out.id o.is)
            unfold Upd14 at HU
            go_wp2_with fail
            refine HU.out.mono ?_
            rintro e w8 ⟨rfl, hI8, hk8⟩
            rw [HGG.out]
            have HS8 := Lib.hid (HS7.out.step hI8 hk8 (fun s hs => hs) (fun i hi => .inl (mine_upd _ (pinU o.is) (fun _ => rfl) i hi)))
            have HO8 := Lib.hid (hk8.blk HO7.out (fun hs => HMO.out _ hs rfl))
            have hsm := upd_some M o.id (pinU o.is) (fun _ => rfl) id
            have hgu := got_upd M o.id id (pinU o.is) (fun _ => rfl)
            have o14 := HO8.out.cell 14
            have o15 := HO8.out.cell 15
            have o16 := HO8.out.cell 16
            have o17 := HO8.out.cell 17
            have o18 := HO8.out.cell 18
            have o19 := HO8.out.cell 19
            have hbx := HS8.out.bx
            obtain ⟨b0, b1, b2, b3, b4, b5, b6, b7, b8, b9, b10, b11, b12⟩ := hbx.all
            obtain ⟨f0, f1, f2, f3, f4, f5, f6, f7, f8, f9, f10, f11, f12⟩ := hbx.melt
            simp [opA] at o14 o15 o16 o17 o18 o19
            have HSM := Lib.hid hsm
            have HGU := Lib.hid hgu
            clear hI8 hk8 hbx HU hsm hgu
            by_cases hid : o.id = id
            · have hqi : (o.id == id) = true := by simpa using hid
              obtain ⟨g0, hg0⟩ : ∃ g, got14 M id = g := ⟨_, rfl⟩
              rw [hg0] at HS8 HGU b0 b1 b2 b3 b4 b5 b6 b7 b8 b10 b11 b12
              by_cases ht : T = true
              · subst ht
                have HBX := Lib.hid (show BoxE (w8.setCell ⟨WB, 4, none⟩ (.bool o.is)) WB (pinU o.is g0) (.slice wA wn wc) from Blk.set (HS8.out.bx) 4 (.bool o.is))
                have HKX := Lib.hid (show Kept [WB] w8 (w8.setCell ⟨WB, 4, none⟩ (.bool o.is)) from ((Kept.refl [WB] w8).setCell (p := ⟨WB, 4, none⟩) (by simp) (.bool o.is)))
                have HLN := Lib.hid HS8.out.len
                have HSV := Lib.hid HS8.out.sv
                go_wp2_with fail
                go_meet
                refine ⟨p, wA, wn, wc, ?_, ?_⟩
                · rw [HSP.out, HSM.out, HTT.out]
                · rw [HSP.out, HGU.out, if_pos ⟨hid, HTT.out⟩]
                  exact HS8.out.write (y' := pinU o.is g0) HKX.out HBX.out HLN.out HSV.out
              · have ht : T = false := by simpa using ht
                subst ht
                go_wp2_with fail
                go_meet
                refine ⟨p, wA, wn, wc, ?_, ?_⟩
                · rw [HSP.out, HSM.out, HTT.out]
                · rw [HSP.out, HGU.out, if_neg (fun h => by have := HTT.out; rw [h.2] at this; cases this)]
                  exact HS8.out
            · have hqi : (o.id == id) = false := by simpa using hid
              go_wp2_with fail
              go_meet
              refine ⟨p, wA, wn, wc, ?_, ?_⟩
              · rw [HSP.out, HSM.out, HTT.out]
              · rw [HSP.out, HGU.out, if_neg (fun h => hid h.1)]
                exact HS8.out
          · have hq4 : (o.what == 4) = false := by simpa using h4
            by_cases h5 : o.what = 5
            · have hq5 : (o.what == 5) = true := by simpa using h5
              have HSP := Lib.hid (show step14 o M = En.upd M o.id (classU o.cl) by unfold step14; simp [h5])
              have HU := Lib.hid (class14_any HS7.out.idx (i := o.id) HO.out.id o.cl)
              unfold Upd14 at HU
              go_wp2_with fail
              refine HU.out.mono ?_
              rintro e w8 ⟨rfl, hI8, hk8⟩
              rw [HGG.out]
              have HS8 := Lib.hid (HS7.out.step hI8 hk8 (fun s hs => hs) (fun i hi => .inl (mine_upd _ (classU o.cl) (fun _ => rfl) i hi)))
              have HO8 := Lib.hid (hk8.blk HO7.out (fun hs => HMO.out _ hs rfl))
              have hsm := upd_some M o.id (classU o.cl) (fun _ => rfl) id
              have hgu := got_upd M o.id id (classU o.cl) (fun _ => rfl)
              have o14 := HO8.out.cell 14
              have o15 := HO8.out.cell 15
              have o16 := HO8.out.cell 16
              have o17 := HO8.out.cell 17
              have o18 := HO8.out.cell 18
              have o19 := HO8.out.cell 19
              have hbx := HS8.out.bx
              obtain ⟨b0, b1, b2, b3, b4, b5, b6, b7, b8, b9, b10, b11, b12⟩ := hbx.all
              obtain ⟨f0, f1, f2, f3, f4, f5, f6, f7, f8, f9, f10, f11, f12⟩ := hbx.melt
              simp [opA] at o14 o15 o16 o17 o18 o19
              have HSM := Lib.hid hsm
              have HGU := Lib.hid hgu
              clear hI8 hk8 hbx HU hsm hgu
              by_cases hid : o.id = id
              · have hqi : (o.id == id) = true := by simpa using hid
                obtain ⟨g0, hg0⟩ : ∃ g, got14 M id = g := ⟨_, rfl⟩
                rw [hg0] at HS8 HGU b0 b1 b2 b3 b4 b5 b6 b7 b8 b10 b11 b12
                by_cases ht : T = true
                · subst ht
                  have HBX := Lib.hid (show BoxE (w8.setCell ⟨WB, 1, none⟩ (.int .i64 o.cl)) WB (classU o.cl g0) (.slice wA wn wc) from Blk.set (HS8.out.bx) 1 (.int .i64 o.cl))
                  have HKX := Lib.hid (show Kept [WB] w8 (w8.setCell ⟨WB, 1, none⟩ (.int .i64 o.cl)) from ((Kept.refl [WB] w8).setCell (p := ⟨WB, 1, none⟩) (by simp) (.int .i64 o.cl)))
                  have HLN := Lib.hid HS8.out.len
                  have HSV := Lib.hid HS8.out.sv
                  go_wp2_with fail
                  go_meet
                  refine ⟨p, wA, wn, wc, ?_, ?_⟩
                  · rw [HSP.out, HSM.out, HTT.out]
                  · rw [HSP.out, HGU.out, if_pos ⟨hid, HTT.out⟩]
                    exact HS8.out.write (y' := classU o.cl g0) HKX.out HBX.out HLN.out HSV.out
                · have ht : T = false := by simpa using ht
                  subst ht
                  go_wp2_with fail
                  go_meet
                  refine ⟨p, wA, wn, wc, ?_, ?_⟩
                  · rw [HSP.out, HSM.out, HTT.out]
                  · rw [HSP.out, HGU.out, if_neg (fun h => by have := HTT.out; rw [h.2] at this; cases this)]
                    exact HS8.out
              · have hqi : (o.id == id) = false := by simpa using hid
                go_wp2_with fail
                go_meet
                refine ⟨p, wA, wn, wc, ?_, ?_⟩
                · rw [HSP.out, HSM.out, HTT.out]
                · rw [HSP.out, HGU.out, if_neg (fun h => hid h.1)]
                  exact HS8.out
            · have hq5 : (o.what == 5) = false := by simpa using h5
              by_cases h6 : o.what = 6
              · have hq6 : (o.what == 6) = true := by simpa using h6
                have HSP := Lib.hid (show step14 o M = En.upd M o.id (moveU o.sq o.pl o.sz) by unfold step14; simp [h6])
                have HU := Lib.hid (move14_any HS7.out.idx (i := o.id) HO.out.id o.sq o.pl o.sz)
                unfold Upd14 at HU
                go_wp2_with fail
                refine HU.out.mono ?_
                rintro e w8 ⟨rfl, hI8, hk8⟩
                rw [HGG.out]
                have HS8 := Lib.hid (HS7.out.step hI8 hk8 (fun s hs => hs) (fun i hi => .inl (mine_upd _ (moveU o.sq o.pl o.sz) (fun _ => rfl) i hi)))
                have HO8 := Lib.hid (hk8.blk HO7.out (fun hs => HMO.out _ hs rfl))
                have hsm := upd_some M o.id (moveU o.sq o.pl o.sz) (fun _ => rfl) id
                have hgu := got_upd M o.id id (moveU o.sq o.pl o.sz) (fun _ => rfl)
                have o14 := HO8.out.cell 14
                have o15 := HO8.out.cell 15
                have o16 := HO8.out.cell 16
                have o17 := HO8.out.cell 17
                have o18 := HO8.out.cell 18
                have o19 := HO8.out.cell 19
                have hbx := HS8.out.bx
                obtain ⟨b0, b1, b2, b3, b4, b5, b6, b7, b8, b9, b10, b11, b12⟩ := hbx.all
                obtain ⟨f0, f1, f2, f3, f4, f5, f6, f7, f8, f9, f10, f11, f12⟩ := hbx.melt
                simp [opA] at o14 o15 o16 o17 o18 o19
                have HSM := Lib.hid hsm
                have HGU := Lib.hid hgu
                clear hI8 hk8 hbx HU hsm hgu
                by_cases hid : o.id = id
                · have hqi : (o.id == id) = true := by simpa using hid
                  obtain ⟨g0, hg0⟩ : ∃ g, got14 M id = g := ⟨_, rfl⟩
                  rw [hg0] at HS8 HGU b0 b1 b2 b3 b4 b5 b6 b7 b8 b10 b11 b12
                  by_cases ht : T = true
                  · subst ht
                    have HBX := Lib.hid (show BoxE (((w8.setCell ⟨WB, 10, none⟩ (.int .i64 o.sq)).setCell ⟨WB, 11, none⟩ (.int .i64 o.pl)).setCell ⟨WB, 12, none⟩ (.int .i64 o.sz)) WB (moveU o.sq o.pl o.sz g0) (.slice wA wn wc) from Blk.set (Blk.set (Blk.set (HS8.out.bx) 10 (.int .i64 o.sq)) 11 (.int .i64 o.pl)) 12 (.int .i64 o.sz))
                    have HKX := Lib.hid (show Kept [WB] w8 (((w8.setCell ⟨WB, 10, none⟩ (.int .i64 o.sq)).setCell ⟨WB, 11, none⟩ (.int .i64 o.pl)).setCell ⟨WB, 12, none⟩ (.int .i64 o.sz)) from ((((Kept.refl [WB] w8).setCell (p := ⟨WB, 10, none⟩) (by simp) (.int .i64 o.sq)).setCell (p := ⟨WB, 11, none⟩) (by simp) (.int .i64 o.pl)).setCell (p := ⟨WB, 12, none⟩) (by simp) (.int .i64 o.sz)))
                    have HLN := Lib.hid HS8.out.len
                    have HSV := Lib.hid HS8.out.sv
                    go_wp2_with fail
                    go_meet
                    refine ⟨p, wA, wn, wc, ?_, ?_⟩
                    · rw [HSP.out, HSM.out, HTT.out]
                    · rw [HSP.out, HGU.out, if_pos ⟨hid, HTT.out⟩]
                      exact HS8.out.write (y' := moveU o.sq o.pl o.sz g0) HKX.out HBX.out HLN.out HSV.out
                  · have ht : T = false := by simpa using ht
                    subst ht
                    go_wp2_with fail
                    go_meet
                    refine ⟨p, wA, wn, wc, ?_, ?_⟩
                    · rw [HSP.out, HSM.out, HTT.out]
                    · rw [HSP.out, HGU.out, if_neg (fun h => by have := HTT.out; rw [h.2] at this; cases this)]
                      exact HS8.out
                · have hqi : (o.id == id) = false := by simpa using hid
                  go_wp2_with fail
                  go_meet
                  refine ⟨p, wA, wn, wc, ?_, ?_⟩
                  · rw [HSP.out, HSM.out, HTT.out]
                  · rw [HSP.out, HGU.out, if_neg (fun h => hid h.1)]
                    exact HS8.out
              · have hq6 : (o.what == 6) = false := by simpa using h6
                have HSP := Lib.hid (show step14 o M = En.put M o.t.e by unfold step14; simp [h3, h4, h5, h6])
                obtain ⟨G2, hG2⟩ : ∃ G, (En.get M o.t.e.id).isSome = G := ⟨_, rfl⟩
                have HG2 := Lib.hid hG2
                have hgg2 : (G2 != G2) = false := by simp
                clear hG2
                have HU := Lib.hid (get14_any HS7.out.idx (i := o.t.e.id) HO.out.t.id)
                go_wp2_with fail
                refine HU.out.mono ?_
                rintro e w8 ⟨v, rfl, ho8, d8⟩
                rw [HG2.out]
                obtain ⟨C8, k8, rfl, -, -⟩ := row_svs ho8 rfl (HGL.out o.t.e.id)
                obtain ⟨sn8, hsn8⟩ : ∃ s, (got14 M o.t.e.id).sv.length = s := ⟨_, rfl⟩
                obtain ⟨y8, hy8⟩ : ∃ y, got14 M o.t.e.id = y := ⟨_, rfl⟩
                rw [hsn8, hy8]
                have hb9 : Below w8.heap.size w8 (w8.alloc (.cells (enA y8 (.slice C8 sn8 k8)) 35)) := (Below.refl _ _).alloc (Nat.le_refl _) _
                obtain ⟨W9, hW9⟩ : ∃ W9, w8.alloc (.cells (enA y8 (.slice C8 sn8 k8)) 35) = W9 := ⟨_, rfl⟩
                rw [hW9] at hb9
                have dA := d8.trans (hb9.mono d8.size)
                have HS9 := Lib.hid (HS7.out.below dA)
                have HO9 := Lib.hid ((Kept.of dA []).blk HO7.out (by simp))
                have HO8 := Lib.hid ((Kept.of d8 []).blk HO7.out (by simp))
                have hMO9 := HMO.out b (mem_mine.2 (.inr (.inl rfl)))
                unfold enA at hW9 ⊢
                have HW9 := Lib.hid hW9
                clear ho8 d8 hb9 hW9 dA hsn8 hy8 HU
                have o1 := HO8.out.cell 1
                have ho9l := HO8.out.lt
                simp [opA] at o1
                have HLP := Lib.hid (blk_op HO9.out)
                unfold enA at HLP
                rw [HSN.out, ← HW9.out] at HLP
                have HP := Lib.hid (put14_any HS9.out.idx (by intro r hr; rw [List.mem_singleton.1 hr]; exact Blk.lt HS9.out.bx) HL1.out o.t.e HO.out.t.id o.t.A sn o.t.cap HSN.out ((HO.out.t.below HS9.out.be).svs (by rw [HSN.out]; exact H9.out)))
                unfold enA at HP
                go_wp2_with (refine wpList_loadW rfl 35 _ rfl _ _ rfl HLP.out ?_)
                rw [HW9.out]
                clear o1 HLP
                refine HP.out.mono ?_
                rintro e wp ⟨rfl, pp, hIp, hkp, hmp⟩
                rw [HG2.out]
                have HSQ := Lib.hid (HS9.out.step hIp hkp (by intro s hs; rw [List.mem_singleton.1 hs]; exact mem_mine.2 (.inr (.inl rfl))) hmp)
                have HOQ := Lib.hid (hkp.blk HO9.out (by simp; exact fun e => hMO9 e.symm))
                have o1 := HOQ.out.cell 1
                simp [opA] at o1
                have HLQ := Lib.hid (blk_op HOQ.out)
                unfold enA at HLQ
                rw [HSN.out] at HLQ
                have hbx := HSQ.out.bx
                obtain ⟨b0, b1, b2, b3, b4, b5, b6, b7, b8, b9, b10, b11, b12⟩ := hbx.all
                obtain ⟨f0, f1, f2, f3, f4, f5, f6, f7, f8, f9, f10, f11, f12⟩ := hbx.melt
                clear hIp hkp hmp hbx HP
                by_cases hid : o.t.e.id = id
                · have hqi : (o.t.e.id == id) = true := by simpa using hid
                  have HID := Lib.hid hid
                  clear hid
                  have HBX := Lib.hid (BoxE.over HSQ.out.bx o.t.e (.slice o.t.A sn o.t.cap))
                  have HKX := Lib.hid (kept13 wp WB o.t.e (.slice o.t.A sn o.t.cap))
                  go_wp2_with (refine wpList_loadW rfl 35 _ rfl _ _ rfl HLQ.out ?_)
                  go_meet
                  refine ⟨pp, o.t.A, sn, o.t.cap, ?_, ?_⟩
                  · rw [HSP.out, is_put HOM.out, if_pos HID.out]
                  · rw [HSP.out, got_put HOM.out, if_pos HID.out]
                    exact HSQ.out.write (y' := o.t.e) HKX.out HBX.out HSN.out (HO.out.t.svs (by rw [HSN.out]; exact H9.out))
                · have hqi : (o.t.e.id == id) = false := by simpa using hid
                  have HSP2 := Lib.hid (And.intro (is_put HOM.out o.t.e id) (got_put HOM.out o.t.e id))
                  rw [if_neg hid, if_neg hid] at HSP2
                  go_wp2_with fail
                  go_meet
                  refine ⟨pp, wA, wn, wc, ?_, ?_⟩
                  · rw [HSP.out, HSP2.out.1, HTT.out]
                  · rw [HSP.out, HSP2.out.2]
                    exact HSQ.out
      case rest =>
        obtain ⟨p', A', n', c', rfl, hst⟩ := hcut
        have HRK := Lib.hid hst
        have HOM' := Lib.hid (step14_ok HOM.out o)
        clear hst
        obtain ⟨M', hM'⟩ : ∃ M', step14 o M = M' := ⟨_, rfl⟩
        rw [hM'] at HRT HRK HOM' ⊢
        have HG := Lib.hid (get14_any HRK.out.idx (i := id) hid)
        have HGL' := Lib.hid (got14_few HRK.out.idx id)
        obtain ⟨T', hT'⟩ : ∃ T', (En.get M' id).isSome = T' := ⟨_, rfl⟩
        rw [hT'] at HG ⊢
        have HT' := Lib.hid hT'
        have htt : (T' != T') = false := by simp
        obtain ⟨Y, hY⟩ : ∃ Y, got14 M' id = Y := ⟨_, rfl⟩
        rw [hY] at HRK HG HGL'
        have HY := Lib.hid hY
        clear hM' hT' hY HGL HS7 HW7 HO7 HMO HGG HTT HSN H9 hgg o1 o14 o15 o16 o17 o18 o19 HIX hix hol hkl
        go_wp2_with fail
        refine HG.out.mono ?_
        rintro e wg ⟨v, rfl, ho, dg⟩
        obtain ⟨yn, hyn⟩ : ∃ s, Y.sv.length = s := ⟨_, rfl⟩
        rw [hyn] at ho HGL'
        obtain ⟨Cg, kg, rfl, hsg, -⟩ := row_svs ho hyn HGL'.out
        have hbg : Below wg.heap.size wg (wg.alloc (.cells (enA Y (.slice Cg yn kg)) 35)) := (Below.refl _ _).alloc (Nat.le_refl _) _
        have hxg := BoxE.new wg Y (.slice Cg yn kg)
        obtain ⟨WG, hWG⟩ : ∃ WG, wg.alloc (.cells (enA Y (.slice Cg yn kg)) 35) = WG := ⟨_, rfl⟩
        rw [hWG] at hbg hxg
        have HSG := Lib.hid (HRK.out.below (dg.trans (hbg.mono dg.size)))
        have HXB := Lib.hid ((HRK.out.below dg).bx)
        have hxl := HXB.out.lt
        obtain ⟨b0, b1, b2, b3, b4, b5, b6, b7, b8, b9, b10, b11, b12⟩ := BoxE.all HXB.out
        have hn' : n' = yn := by rw [← HSG.out.len, hyn]
        subst hn'
        have HSE := Lib.hid (sameE_any Y Y Cg A' n' n' kg c' WG hyn hyn (hsg.below hbg) (HSG.out.sv.below HSG.out.be))
        have hyy : decide (Y = Y) = true := by simp
        rw [hyy] at HSE
        unfold enA at hWG HSE ⊢
        have HWG := Lib.hid hWG
        clear ho hsg hbg hxg hWG dg hyn hyy HXB HG
        go_wp2_with fail
        rw [HWG.out]
        clear b0 b1 b2 b3 b4 b5 b6 b7 b8 b9 b10 b11 b12
        refine HSE.out.mono ?_
        rintro e wz ⟨rfl, dz⟩
        have HSZ := Lib.hid (HSG.out.below dz)
        clear dz HSG HSE
        go_wp2
        go_roundw
        case rel => exact ⟨k + 1, p', A', n', c', by go_num, by omega, by rw [HRT.out, HT'.out], by rw [HRT.out, HY.out]; exact HSZ.out⟩
        case measure => simp [intOf]; omega
    · obtain rfl : k = n := by omega
      have HBE := Lib.hid HS.out.be
      clear HS hlt
      go_wp2
      go_ret
      exact ⟨rfl, HBE.out⟩

theorem walk (w : World) (A : Option Addr) (cap : Nat) (l : List Opq) (hl : l.length ≤ cap) (hm : cap ≤ maxLen) (hA : Lies w A (flatO l)) (hQ : ∀ o ∈ l, OpIn w o) (id : Int) (hid : -9223372036854775808 ≤ id ∧ id ≤ 9223372036854775807) :
    Calls Try.prog 4 #[.slice A l.length cap, .int .i64 id] w fun e w' => e = .returned (.bool true) ∧ Below w.heap.size w w' :=
  walkN w A l.length cap l id rfl hl hm hA hQ (by unfold I64; omega)


set_option maxRecDepth 100000 in
theorem lifted (os : Os) (started : os.Started) (H : Type) (enc : TypeId × Value → H) :
    ReturnsInHanded {} Try.checked os 4 .any (Rows.entryMapSpec.pre6 enc Try.prog Try.f4 Rows.entryMapRow.domain false) (Rows.entryMapSpec.post enc Try.prog Try.f4 false true false false) := by
  refine returnsInHanded_of_change (C := Try.checked) own started (by kernel_rfl) Try.func4
    (ChangeSpec.witness6 (enc := enc) (C := Try.checked) false ⟨#[], #[.slice none 0 0, .int .i64 0], []⟩ 8 (by kernel_rfl) (by kernel_rfl) (by kernel_rfl) (by kernel_rfl)) ?_
  intro W base args ds gs before hval0 hW hcnd _
  have hval : ∀ (j : Nat) t v, Try.f4.params[j]? = some t → args[j]? = some v → Value.okWide Try.prog W .any base t v := hval0
  have hfin := fun W' => law_post (enc := enc) (P := Try.prog) (f := Try.f4) (s := Rows.entryMapSpec) (tb := 4) (W := W) (W' := W') (args := args) (ds := ds) (gs := gs) (before := before) laidOut rfl (by kernel_rfl) Try.underlying4 (by kernel_rfl) (fun xs h => by rw [Try.params4] at h; match xs, h with | [_, _], _ => rfl) hW
  have hlt : ∀ x ∈ before, x.block < W.heap.size := fun x hx => hW.lt x hx
  obtain ⟨p, q, hA0, hV, rfl, hfz, hnd⟩ := hW
  have hA : DataW.TrodAll enc Try.prog W 0 (fun _ => true) true Try.f4.params.toList args.toList ds p := hA0
  rw [Try.params4] at hA hval
  obtain ⟨v0, vs0, d0, ds0, p0, q0, hargs, rfl, rfl, h0, r0⟩ := trodAll_cons hA
  obtain ⟨v1, vs1, d1, ds1, p1, q1, rfl, rfl, rfl, h1, r1⟩ := trodAll_cons r0
  obtain ⟨rfl, rfl, rfl⟩ := trodAll_nil r1
  obtain rfl : args = #[v0, v1] := by cases args; simp_all
  obtain ⟨A0, cap0, l0, rfl, hl0, hm0, hB0, hQ0⟩ := open_ops14 (hval 0 22 v0 rfl rfl) h0 (fun x hx => hlt x (by simp [hx]))
  obtain ⟨a1, rfl, rfl, rfl, w1⟩ := open_int Try.underlying2 (hval 1 2 v1 rfl rfl) h1
  refine (walk W A0 cap0 l0 hl0 hm0 hB0 hQ0 a1 (bounds_i64 w1)).mono fun e W' ⟨he, hg⟩ => ?_
  subst he
  exact ⟨_, rfl, hfin W' hg⟩

theorem proved : Rows.EntryMapSaid :=
  OpenClaim.holds_of_wide 4 Try.f4 rfl rfl rfl rfl rfl rfl rfl ⟨rfl, rfl, rfl, rfl, rfl⟩ rfl rfl rfl rfl rfl (by kernel_rfl) Try.func4 (by kernel_rfl)
    (of_decide_eq_true (by kernel_rfl)) (by unfold Func.isWrapper; first | (rw [if_pos (by decide +kernel)]; kernel_rfl) | (rw [if_neg (by decide +kernel)]; exact ⟨rfl, rfl⟩))
    (fun os started H enc _ => lifted os started H enc)
#print axioms proved
end Go.Proofs.Ytepfbpljkhchbaa.entryMap
