/-
  Layer 14, the document's answer: Get, All, Items of its index: what they answer, of any index. Nothing is assumed but that it lies in memory. (Made by gen14/rib.py.)
-/
import Derived.Test.YtepfbpljkhchbaaRiA

namespace Go.Proofs.Ytepfbpljkhchbaa
open Go.RowKit Go.Maps En
set_option maxRecDepth 100000

theorem wpList_loadW {w : World} {ops : Array Oper} {rest : List Oper} {o : Oper} {a : Act} {Q : Exit → Act → World → Prop} (hg : o.guard = none) (t : TypeId) (x : Operand) (ho : o.op = .load t x) (p v : Value) (hx : a.eval x = p) (hr : (Instr.loadAt t p).run Try.prog w = .ok v w)
    (hK : wpList Try.prog ops Q rest (a.put o.dst v) w) : wpList Try.prog ops Q (o :: rest) a w := by
  refine wpList_plain hg fun K hK' => ?_
  unfold Oper.wp
  simp [execOp, ho, hx, hr, Result.andThen]
  exact hK' _ _ hK
theorem wpList_storeW {w w2 : World} {ops : Array Oper} {rest : List Oper} {o : Oper} {a : Act} {Q : Exit → Act → World → Prop} (hg : o.guard = none) (t : TypeId) (x y : Operand) (ho : o.op = .store t x y) (p v : Value) (hx : a.eval x = p) (hy : a.eval y = v) (hr : (Instr.storeAt t p v).run Try.prog w = .ok () w2)
    (hK : wpList Try.prog ops Q rest (a.put o.dst undef) w2) : wpList Try.prog ops Q (o :: rest) a w := by
  refine wpList_plain hg fun K hK' => ?_
  unfold Oper.wp
  simp [execOp, ho, hx, hy, hr, Result.andThen]
  exact hK' _ _ hK

section
variable {S : List Nat} {w : World} {r : Nat} {m : List E}
set_option maxHeartbeats 4000000 in
theorem rget14_any (h : IsRef S w r m) (hu : Uq m) (i : Int) : Calls Try.prog 24 #[.pointer (some ⟨r, 0, none⟩), .int .i64 i] w fun e w' => ∃ v, e = .returned (.tuple #[.agg (enA (got14 m i) v), .bool (En.get m i).isSome]) ∧ w'.ownsRow w.heap.size 9 1 v (got14 m i).sv.length (strs (got14 m i).sv) ∧ Below w.heap.size w w' := by
  have hb0 := BoxE.new w E.zero (.slice none 0 0)
  have hB0 : Below w.heap.size w (w.alloc (.cells (enA E.zero (.slice none 0 0)) 35)) := (Below.refl _ _).alloc (Nat.le_refl _) _
  have hI1 := h.below hB0
  obtain ⟨W1, hW1⟩ : ∃ W1, w.alloc (.cells (enA E.zero (.slice none 0 0)) 35) = W1 := ⟨_, rfl⟩
  have hz1 : W1.heap.size = w.heap.size + 1 := by rw [← hW1]; simp
  rw [hW1] at hb0 hB0 hI1
  have HAT := Lib.hid (rat14_any hI1 i)
  obtain ⟨A, cap, ts, hbx, ht, h1, h2, hl, -, hok⟩ := hI1.row
  have c0 : W1.cell? ⟨r, 0, none⟩ = some (.slice A m.length cap) := hbx.cell 0
  have h1000 := h.few
  have HU := Lib.hid hu
  have HL := Lib.hid hl
  have HT := Lib.hid ht
  have HOK := Lib.hid hok
  obtain ⟨n, hn⟩ : ∃ n, m.length = n := ⟨_, rfl⟩
  rw [hn] at c0 h1 h1000
  have HN := Lib.hid hn
  have HBX := Lib.hid hb0
  have HB0 := Lib.hid hB0
  have HZ1 := Lib.hid hz1
  unfold enA at hW1
  simp only [E.zero] at hW1
  have HW1 := Lib.hid hW1
  clear h hI1 hbx ht hl hok hn hb0 hB0 hz1 hW1 hu
  unfold maxLen at h2
  go_enter Try.func24, Try.ntmps24
  go_wp2_with fail
  rw [HW1.out]
  refine HAT.out.mono ?_
  rintro e w2 ⟨v, rfl, hat, rfl⟩
  obtain ⟨a0, a1, a2, a3, a4, a5, a6, a7, a8, a9, a10, a11, a12⟩ := BoxE.all HBX.out
  obtain ⟨f0, f1, f2, f3, f4, f5, f6, f7, f8, f9, f10, f11, f12⟩ := BoxE.melt HBX.out
  rcases hat with ⟨rfl, hg⟩ | ⟨k, hk, rfl, hmk⟩
  · have HG := Lib.hid (show got14 m i = E.zero ∧ (En.get m i).isSome = false by unfold got14; rw [hg]; exact ⟨rfl, rfl⟩)
    have HBZ := Lib.hid (HBX.out.over E.zero (.slice none 0 0))
    have HK := Lib.hid (Kept.below HB0.out (kept13 w2 w.heap.size E.zero (.slice none 0 0)) (by simp))
    clear hg HAT
    unfold enA at *
    simp only [E.zero] at *
    go_wp2_with fail
    have HK := HK.out
    have HBZ := HBZ.out
    clear a0 a1 a2 a3 a4 a5 a6 a7 a8 a9 a10 a11 a12 f0 f1 f2 f3 f4 f5 f6 f7 f8 f9 f10 f11 f12
    revert HK HBZ
    generalize World.setCell _ _ _ = wf
    intro HK HBZ
    obtain ⟨y0, y1, y2, y3, y4, y5, y6, y7, y8, y9, y10, y11, y12⟩ := BoxE.all (x := ⟨0, 0, 0, 0, false, 0, 0, 0, 0, [], 0, 0, 0⟩) HBZ
    simp only at y0 y1 y2 y3 y4 y5 y6 y7 y8 y9 y10 y11 y12
    refine bodyPost_ret (v := .tuple #[.agg #[.int .i64 0, .int .i64 0, .int .i64 0, .int .i64 0, .bool false, .int .i64 0, .int .i64 0, .int .i64 0, .int .i64 0, .slice none 0 0, .int .i64 0, .int .i64 0, .int .i64 0], .bool false]) (w := wf) (by simp [results, Try.results24, go_sem, y0, y1, y2, y3, y4, y5, y6, y7, y8, y9, y10, y11, y12, Result.andThen]) rfl ?_
    rw [HG.out.1, HG.out.2]
    exact ⟨_, rfl, World.ownsRow_nil _ _ _ _, HK⟩
  · have hg : En.get m i = some m[k] := by rw [← hmk]; exact get_of HU.out (List.getElem_mem hk)
    have HG := Lib.hid (show got14 m i = m[k] ∧ (En.get m i).isSome = true by unfold got14; rw [hg]; exact ⟨rfl, rfl⟩)
    have hkn : k < n := by rw [← HN.out]; exact hk
    have hkt : k < ts.length := by have := congrArg List.length HT.out; simp at this; omega
    obtain ⟨ad, rfl, hadb, hcl⟩ := at_ent HL.out k hkt
    have hte : ts[k].e = m[k] := by have := HT.out; subst this; simp
    have hsv := (HOK.out ts[k] (List.getElem_mem hkt)).1
    have hld := run_loadRow w2 (ad.add (k * 13)) ts[k] (hcl w2 (Below.refl _ _))
    have hix := fun (W : World) => show (Instr.indexAt 51 (.slice (some ad) n cap) (.int .i64 (k : Int))).run Try.prog W = .ok (.pointer (some (ad.add (k * 13)))) W by go_simp
    have hlt0 : decide ((k : Int) < 0) = false := by simp
    generalize m[k] = y at *
    obtain ⟨t, ht⟩ : ∃ t, ts[k] = t := ⟨_, rfl⟩
    rw [ht] at hte hsv hld
    obtain ⟨y', tA, tc⟩ := t
    simp only at hte hsv hld
    subst hte
    obtain ⟨sn, hsn⟩ : ∃ sn, y'.sv.length = sn := ⟨_, rfl⟩
    rw [hsn] at hld
    have HOW := Lib.hid (rown14_any y' tA sn tc w2 hsn hsv)
    have HSN := Lib.hid hsn
    have HSN9 := Lib.hid (show sn ≤ 9000 by have := hsv.few; omega)
    generalize ad.add (k * 13) = q at *
    unfold enA at hld HOW
    have HLD := Lib.hid hld
    clear hld hsn hsv ht hcl hg hmk HAT hk hkt
    go_wp2_with (refine wpList_loadW rfl 35 _ rfl _ _ rfl HLD.out ?_)
    clear a0 a1 a2 a3 a4 a5 a6 a7 a8 a9 a10 a11 a12 f0 f1 f2 f3 f4 f5 f6 f7 f8 f9 f10 f11 f12
    refine HOW.out.mono ?_
    rintro e w3 ⟨v, rfl, ho, d2⟩
    obtain ⟨A', cap', rfl, -, -⟩ := row_svs ho HSN.out HSN9.out
    have hb2 := BoxE.below HBX.out d2
    obtain ⟨a0, a1, a2, a3, a4, a5, a6, a7, a8, a9, a10, a11, a12⟩ := hb2.all
    obtain ⟨f0, f1, f2, f3, f4, f5, f6, f7, f8, f9, f10, f11, f12⟩ := BoxE.melt hb2
    have HF := Lib.hid (hb2.over y' (.slice A' sn cap'))
    have HK := Lib.hid (Kept.below (HB0.out.trans (d2.mono HB0.out.size)) (kept13 w3 w.heap.size y' (.slice A' sn cap')) (by simp))
    have HO := Lib.hid (own_mono14 (own_kept14 ho (kept13 w3 w.heap.size y' (.slice A' sn cap')) (by have := HZ1.out; simp; omega)) (base' := w.heap.size) (by have := HZ1.out; omega))
    clear ho d2 hb2 HOW c0 hix HLD
    obtain ⟨xid, xcl, xti, xco, xpi, xbi, xlo, xhi, xma, xsv, xse, xpl, xsz⟩ := y'
    unfold enA at *
    simp only [E.zero] at *
    go_wp2_with fail
    have HF := HF.out
    have HK := HK.out
    have HO := HO.out
    clear a0 a1 a2 a3 a4 a5 a6 a7 a8 a9 a10 a11 a12 f0 f1 f2 f3 f4 f5 f6 f7 f8 f9 f10 f11 f12
    revert HF HK HO
    generalize World.setCell _ _ _ = wf
    intro HF HK HO
    obtain ⟨y0, y1, y2, y3, y4, y5, y6, y7, y8, y9, y10, y11, y12⟩ := BoxE.all (x := ⟨xid, xcl, xti, xco, xpi, xbi, xlo, xhi, xma, xsv, xse, xpl, xsz⟩) HF
    simp only at y0 y1 y2 y3 y4 y5 y6 y7 y8 y9 y10 y11 y12
    refine bodyPost_ret (v := .tuple #[.agg #[.int .i64 xid, .int .i64 xcl, .int .i64 xti, .int .i64 xco, .bool xpi, .int .i64 xbi, .int .i64 xlo, .int .i64 xhi, .int .i64 xma, .slice A' sn cap', .int .i64 xse, .int .i64 xpl, .int .i64 xsz], .bool true]) (w := wf) (by simp [results, Try.results24, go_sem, y0, y1, y2, y3, y4, y5, y6, y7, y8, y9, y10, y11, y12, Result.andThen]) rfl ?_
    rw [HG.out.1, HG.out.2]
    refine ⟨_, rfl, ?_, HK⟩
    have := HSN.out
    simp only at this ⊢
    rw [this]
    exact HO

set_option maxHeartbeats 4000000 in
theorem ritems14_any (h : IsRef S w r m) : Calls Try.prog 36 #[.pointer (some ⟨r, 0, none⟩)] w fun e w' => ∃ v, e = .returned v ∧ w'.ownsRow w.heap.size 30 5 v m.length (flatI (m.map itemE)) ∧ Below w.heap.size w w' := by
  obtain ⟨i0, hi, hz0, hz1, hz2⟩ := info_parts infoIt
  obtain ⟨A, cap, ts0, hbx, ht, h1, h2, hl, -, hok⟩ := h.row
  have HC0 := Lib.hid (fun (W : World) (hW : Below w.heap.size w W) => show W.cell? ⟨r, 0, none⟩ = some (.slice A m.length cap) from ((Kept.of hW []).blk hbx (by simp)).cell 0)
  have h1000 := h.few
  have HA := Lib.hid hl
  have HT0 := Lib.hid ht
  have HOK0 := Lib.hid (fun t ht => (hok t ht).1)
  obtain ⟨n, hn⟩ : ∃ n, m.length = n := ⟨_, rfl⟩
  rw [hn] at HC0 h1 h1000
  have HN := Lib.hid hn
  clear h hbx ht hl hn hok
  unfold maxLen at h2
  go_enter Try.func36, Try.ntmps36
  go_wp2
  go_loopw [3, 4] (fun s5 s10 wr => ∃ k : Nat, s10 = .int .i64 (k : Int) ∧ k ≤ n ∧ wr.ownsRow w.heap.size 30 5 s5 k (flatI ((m.take k).map itemE)) ∧ Below w.heap.size w wr) (fun _ i _ => n - (intOf i).toNat)
  case atStart => exact ⟨0, rfl, Nat.zero_le _, World.ownsRow_nil _ _ _ _, Below.refl _ _⟩
  case round =>
    obtain ⟨k, rfl, hk, hrow, hbr⟩ := hrel
    have HROW := Lib.hid hrow
    have HBR := Lib.hid hbr
    clear hrow
    by_cases hlt : k < n
    · have hka : k < m.length := by rw [HN.out]; exact hlt
      have hkt : k < ts0.length := by have := congrArg List.length HT0.out; simp at this; omega
      obtain ⟨ad, rfl, hadb, hcl⟩ := at_ent HA.out k hkt
      have hte : ts0[k].e = m[k] := by have := HT0.out; subst this; simp
      have hc0 := HC0.out wr hbr
      obtain ⟨d0, d1, d2, d3, d4, -⟩ := ent_all (hcl wr hbr)
      rw [hte] at d0 d1 d2 d3 d4
      have hix := fun (W : World) => show (Instr.indexAt 51 (.slice (some ad) n cap) (.int .i64 (k : Int))).run Try.prog W = .ok (.pointer (some (ad.add (k * 13)))) W by go_simp
      have HT1 := Lib.hid (show m.take (k + 1) = m.take k ++ [m[k]] from List.take_succ_eq_append_getElem hka)
      clear hcl hte
      generalize m[k] = y at *
      generalize ad.add (k * 13) = q at *
      have HROW2 := HROW
      have HBR2 := HBR
      have HTN := Lib.hid (show flatI ((m.take k).map itemE) ++ itCells (itemE y) = flatI ((m.take (k + 1)).map itemE) by rw [HT1.out, List.map_append, flatI_append]; simp [flatI])
      generalize flatI ((m.take k).map itemE) = F0 at *
      obtain ⟨yid, ycl, yti, yco, ypi, ybi, ylo, yhi, yma, ysv, yse, ypl, ysz⟩ := y
      simp only [itemE, itCells] at *
      go_wp2_with (at_builtin; refine wpList_appK rfl _ _ 54 rfl w.heap.size 30 i0 (.agg #[.int .i64 0, .int .i64 0, .int .i64 0, .int .i64 0, .bool false]) 5 40 Try.underlying54 hi hz0 hz1 hz2 rfl (by decide) _ k F0 rfl ?b1 (some ⟨wr.heap.size, 0, none⟩) 1 1 [.int .i64 yid, .int .i64 ycl, .int .i64 yti, .int .i64 yco, .bool ypi] rfl rfl ?b2 ?b3 ?b4 ?b5 ?b6 ?b7)
      case b1 => exact HROW2.out.alloc _
      case b2 => exact Lies.new wr #[.int .i64 yid, .int .i64 ycl, .int .i64 yti, .int .i64 yco, .bool ypi] _
      case b3 => simp [Value.oneCell']
      case b4 => unfold maxLen; omega
      case b5 => omega
      case b6 => have := HBR2.out.size; simp; omega
      case b7 =>
        intro v3 w3 hown3 hg3 _
        have HB3 := Lib.hid ((HBR2.out.alloc HBR2.out.size (.cells #[.int .i64 yid, .int .i64 ycl, .int .i64 yti, .int .i64 yco, .bool ypi] 30)).grown hg3 (Nat.le_trans HBR2.out.size (by simp)) (fun g e => by
          rcases HROW2.out.2 with ⟨e2, -⟩ | ⟨g', cap, cur, e2, hbg, -⟩
          · rw [e2] at e; cases e
          · rw [e2] at e; injection e with e; rw [← e]; exact hbg))
        rw [HTN.out] at hown3
        have HO3 := Lib.hid hown3
        clear hown3 hg3
        go_wp2
        go_roundw
        case rel => exact ⟨k + 1, by go_num, by omega, HO3.out, HB3.out⟩
        case measure => simp [intOf]; omega
    · obtain rfl : k = n := by omega
      have hc0 := HC0.out wr hbr
      have HRE := Lib.hid (show flatI ((m.take k).map itemE) = flatI (m.map itemE) by rw [List.take_of_length_le (by rw [HN.out]; omega)])
      have HB := HBR.out
      go_wp2
      go_ret
      exact ⟨_, rfl, by rw [HN.out, ← HRE.out]; exact HROW.out, HB⟩

set_option maxHeartbeats 8000000 in
theorem rall14_any (h : IsRef S w r m) : Calls Try.prog 33 #[.pointer (some ⟨r, 0, none⟩)] w fun e w' => ∃ v ts, e = .returned v ∧ w'.ownsRow w.heap.size 35 13 v m.length (flatEn ts) ∧ ts.map Ent.e = m ∧ (∀ t ∈ ts, Svs w' t.e.sv t.A t.cap ∧ ∀ ad, t.A = some ad → w.heap.size ≤ ad.block) ∧ Below w.heap.size w w' := by
  obtain ⟨i0, hi, hz0, hz1, hz2⟩ := info_parts infoEn
  obtain ⟨A, cap, ts0, hbx, ht, h1, h2, hl, -, hok⟩ := h.row
  have HC0 := Lib.hid (fun (W : World) (hW : Below w.heap.size w W) => show W.cell? ⟨r, 0, none⟩ = some (.slice A m.length cap) from ((Kept.of hW []).blk hbx (by simp)).cell 0)
  have h1000 := h.few
  have HA := Lib.hid hl
  have HT0 := Lib.hid ht
  have HOK0 := Lib.hid (fun t ht => (hok t ht).1)
  obtain ⟨n, hn⟩ : ∃ n, m.length = n := ⟨_, rfl⟩
  rw [hn] at HC0 h1 h1000
  have HN := Lib.hid hn
  clear h hbx ht hl hn hok
  unfold maxLen at h2
  go_enter Try.func33, Try.ntmps33
  go_wp2
  go_loopw [3, 4] (fun s5 s10 wr => ∃ (k : Nat) (ts : List Ent), s10 = .int .i64 (k : Int) ∧ k ≤ n ∧ wr.ownsRow w.heap.size 35 13 s5 k (flatEn ts) ∧ ts.map Ent.e = m.take k ∧ (∀ t ∈ ts, Svs wr t.e.sv t.A t.cap ∧ (∀ ad, t.A = some ad → w.heap.size ≤ ad.block) ∧ Off s5.ownBlock.toList t.A (strs t.e.sv)) ∧ Below w.heap.size w wr) (fun _ i _ => n - (intOf i).toNat)
  case atStart => exact ⟨0, [], rfl, Nat.zero_le _, World.ownsRow_nil _ _ _ _, by simp, by simp, Below.refl _ _⟩
  case round =>
    obtain ⟨k, ts, rfl, hk, hrow, hts, hok, hbr⟩ := hrel
    have HROW := Lib.hid hrow
    have HBR := Lib.hid hbr
    have HTS := Lib.hid hts
    have HOKT := Lib.hid hok
    clear hrow hts hok
    by_cases hlt : k < n
    · have hka : k < m.length := by rw [HN.out]; exact hlt
      have hkt : k < ts0.length := by have := congrArg List.length HT0.out; simp at this; omega
      obtain ⟨ad, rfl, hadb, hcl⟩ := at_ent HA.out k hkt
      have hte : ts0[k].e = m[k] := by have := HT0.out; subst this; simp
      have hc0 := HC0.out wr hbr
      have hsv := HOK0.out ts0[k] (List.getElem_mem hkt)
      have hld := run_loadRow wr (ad.add (k * 13)) ts0[k] (hcl wr hbr)
      have hix := fun (W : World) => show (Instr.indexAt 51 (.slice (some ad) n cap) (.int .i64 (k : Int))).run Try.prog W = .ok (.pointer (some (ad.add (k * 13)))) W by go_simp
      have HT1 := Lib.hid (show m.take (k + 1) = m.take k ++ [m[k]] from List.take_succ_eq_append_getElem hka)
      generalize m[k] = y at *
      obtain ⟨t0, ht0⟩ : ∃ t, ts0[k] = t := ⟨_, rfl⟩
      rw [ht0] at hte hsv hld
      obtain ⟨y', A1, cap1⟩ := t0
      simp only at hte hsv hld
      subst hte
      obtain ⟨ny, hny⟩ : ∃ ny, y'.sv.length = ny := ⟨_, rfl⟩
      rw [hny] at hld
      have HOF := Lib.hid (fun (W : World) (hW : Below w.heap.size w W) => rown14_any y' A1 ny cap1 W hny (hsv.below hW))
      have HNY := Lib.hid hny
      have HNY9 := Lib.hid (show ny ≤ 9000 by have := hsv.few; omega)
      generalize ad.add (k * 13) = q at *
      unfold enA at hld HOF
      have HLD := Lib.hid hld
      clear hcl ht0 hsv hld hny
      generalize y' = y at *
      go_wp2_with (refine wpList_loadW rfl 35 _ rfl _ _ rfl HLD.out ?_)
      refine (HOF.out wr HBR.out).mono ?_
      rintro e w2 ⟨v, rfl, ho, d2⟩
      obtain ⟨A', cap', rfl, hS', hfr⟩ := row_svs ho HNY.out HNY9.out
      have HROW2 := Lib.hid (row_keep HROW.out d2)
      have HBR2 := Lib.hid (HBR.out.trans (d2.mono HBR.out.size))
      have HS2 := Lib.hid hS'
      have HFR := Lib.hid hfr
      have HOK2 := Lib.hid (show ∀ t ∈ ts, Svs w2 t.e.sv t.A t.cap ∧ (∀ ad, t.A = some ad → w.heap.size ≤ ad.block) ∧ Off u3.ownBlock.toList t.A (strs t.e.sv) from fun t ht => ⟨(HOKT.out t ht).1.below d2, (HOKT.out t ht).2⟩)
      have HLR := Lib.hid (show ∀ g, u3.ownBlock = some g → g < wr.heap.size ∧ w.heap.size ≤ g from fun g hg => by
        rcases HROW.out.2 with ⟨e2, -⟩ | ⟨g', cap, cur, e2, hbg, hgh, -⟩
        · rw [e2] at hg; cases hg
        · rw [e2] at hg; injection hg with hg; rw [← hg]; exact ⟨(Array.getElem?_eq_some_iff.1 hgh).1, hbg⟩)
      have HSW := Lib.hid (show w2.heap.size ≥ wr.heap.size from d2.size)
      have HTN := Lib.hid (flatEn_snoc ts ⟨y, A', cap'⟩)
      unfold entCs at HTN
      simp only [HNY.out] at HTN
      have HONE := Lib.hid (enA_one y A' ny cap')
      clear d2 ho hS' hfr
      obtain ⟨F0, hF0⟩ : ∃ F0, flatEn ts = F0 := ⟨_, rfl⟩
      have HF0 := Lib.hid hF0
      rw [hF0] at HROW2 HTN
      clear hF0
      obtain ⟨yid, ycl, yti, yco, ypi, ybi, ylo, yhi, yma, ysv, yse, ypl, ysz⟩ := y
      unfold enA at *
      simp only at *
      go_wp2_with (at_builtin; refine wpList_appK rfl _ _ 51 rfl w.heap.size 35 i0 _ 13 120 Try.underlying51 hi hz0 hz1 hz2 rfl (by decide) _ k F0 rfl ?b1 (some ⟨w2.heap.size, 0, none⟩) 1 1 [.int .i64 yid, .int .i64 ycl, .int .i64 yti, .int .i64 yco, .bool ypi, .int .i64 ybi, .int .i64 ylo, .int .i64 yhi, .int .i64 yma, .slice A' ny cap', .int .i64 yse, .int .i64 ypl, .int .i64 ysz] rfl rfl ?b2 ?b3 ?b4 ?b5 ?b6 ?b7)
      case b1 => exact HROW2.out.alloc _
      case b2 => exact Lies.new w2 #[.int .i64 yid, .int .i64 ycl, .int .i64 yti, .int .i64 yco, .bool ypi, .int .i64 ybi, .int .i64 ylo, .int .i64 yhi, .int .i64 yma, .slice A' ny cap', .int .i64 yse, .int .i64 ypl, .int .i64 ysz] _
      case b3 => exact HONE.out
      case b4 => unfold maxLen; omega
      case b5 => omega
      case b6 => have := HBR2.out.size; simp; omega
      case b7 =>
        intro v3 w3 hown3 hg3 hb3
        have HB3 := Lib.hid ((HBR2.out.alloc HBR2.out.size (.cells #[.int .i64 yid, .int .i64 ycl, .int .i64 yti, .int .i64 yco, .bool ypi, .int .i64 ybi, .int .i64 ylo, .int .i64 yhi, .int .i64 yma, .slice A' ny cap', .int .i64 yse, .int .i64 ypl, .int .i64 ysz] 35)).grown hg3 (Nat.le_trans HBR2.out.size (by simp)) (fun g e => (HLR.out g e).2))
        have HO3 := Lib.hid (show w3.ownsRow w.heap.size 35 13 v3 (k + 1) (flatEn (ts ++ [⟨⟨yid, ycl, yti, yco, ypi, ybi, ylo, yhi, yma, ysv, yse, ypl, ysz⟩, A', cap'⟩])) by rw [HTN.out]; exact hown3)
        have hkw := grown_kept hg3
        have key : ∀ (sv : List (List UInt8)) (B : Option Addr) (c : Nat), Svs w2 sv B c → Off u3.ownBlock.toList B (strs sv) → Svs w3 sv B c ∧ Off v3.ownBlock.toList B (strs sv) := fun sv B c h1 h2 => by
          refine ⟨(h1.below ((Below.refl _ _).alloc (Nat.le_refl _) _)).kept h2 hkw, ?_⟩
          rcases hb3 with e3 | e3
          · rw [e3]; exact h2
          · rw [e3]
            exact Off.of h1.lies (by simp)
        have HOK3 := Lib.hid (show ∀ t ∈ ts ++ [⟨⟨yid, ycl, yti, yco, ypi, ybi, ylo, yhi, yma, ysv, yse, ypl, ysz⟩, A', cap'⟩], Svs w3 t.e.sv t.A t.cap ∧ (∀ ad, t.A = some ad → w.heap.size ≤ ad.block) ∧ Off v3.ownBlock.toList t.A (strs t.e.sv) from fun t ht => by
          rcases List.mem_append.1 ht with ht | ht
          · obtain ⟨h1, h2, h3⟩ := HOK2.out t ht
            obtain ⟨h4, h5⟩ := key _ _ _ h1 h3
            exact ⟨h4, h2, h5⟩
          · rw [List.mem_singleton.1 ht]
            obtain ⟨h4, h5⟩ := key ysv A' cap' HS2.out (.inr fun ad e hm => by
              have h6 := HFR.out ad e
              have h7 := HLR.out ad.block (by simpa using hm)
              omega)
            exact ⟨h4, fun ad e => by have := HFR.out ad e; have := HBR.out.size; omega, h5⟩)
        have HL3 := Lib.hid (show (ts ++ [(⟨⟨yid, ycl, yti, yco, ypi, ybi, ylo, yhi, yma, ysv, yse, ypl, ysz⟩, A', cap'⟩ : Ent)]).map Ent.e = m.take (k + 1) by rw [List.map_append, HTS.out, HT1.out]; rfl)
        clear hown3 hg3 hb3 hkw key
        go_wp2
        go_roundw
        case rel => exact ⟨k + 1, _, by go_num, by omega, HO3.out, HL3.out, HOK3.out, HB3.out⟩
        case measure => simp [intOf]; omega
    · obtain rfl : k = n := by omega
      have hc0 := HC0.out wr hbr
      have HRE := Lib.hid (show ts.map Ent.e = m by rw [HTS.out, List.take_of_length_le (by rw [HN.out]; omega)])
      have HB := HBR.out
      go_wp2
      go_ret
      exact ⟨_, ts, rfl, by rw [HN.out]; exact HROW.out, HRE.out, fun t ht => ⟨(HOKT.out t ht).1, (HOKT.out t ht).2.1⟩, HB⟩
end
end Go.Proofs.Ytepfbpljkhchbaa
