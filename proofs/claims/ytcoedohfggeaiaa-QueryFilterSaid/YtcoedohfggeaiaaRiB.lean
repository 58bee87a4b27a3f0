/-
  Layer 14, the document's answer: Get, All, Items of its index: what they answer, of any index. Nothing is assumed but that it lies in memory. (Made by gen14/rib.py.)
-/
import Derived.Test.YtcoedohfggeaiaaRiA

namespace Go.Proofs.Ytcoedohfggeaiaa
open Go.RowKit Go.Maps En
set_option maxRecDepth 100000

theorem wpList_loadW {w : World} {ops : Array Oper} {rest : List Oper} {o : Oper} {a : Act} {Q : Exit → Act → World → Prop} (hg : o.guard = none) (t : TypeId) (x : Operand) (ho : o.op = .load t x) (p v : Value) (hx : a.eval x = p) (hr : (Instr.loadAt t p).run Try.prog w = .ok v w)
    (hK : wpList Try.prog ops Q rest (a.put o.dst v) w) : wpList Try.prog ops Q (o :: rest) a w := by
  refine wpList_plain hg fun K hK' => ?_
  unfold Oper.wp
  simp [execOp, ho, hx, hr, Result.andThen]
  exact hK' _ _ hK
theorem wpList_storeW {w w2 : World} {ops : Array Oper} {rest : List Oper} {o : Oper} {a : Act} {Q : Exit → Act → World → Prop} (hg : o.guard = none) (t : TypeId) (x y : Operand) (ho : o.op = .store t x y) (p v : Value) (hx : a.eval x = p) (hy : a.eval y = v) (hr : (Instr.storeAt t p v).run Try.prog w = .ok () w2)
    (hK : wpList Try.prog ops Q rest (a.put o.dst undef) w2) : wpList Try.prog ops Q (o :: rest) a w := by
  refine wpList_plain hg fun K hK' => ?_
  unfold Oper.wp
  simp [execOp, ho, hx, hy, hr, Result.andThen]
  exact hK' _ _ hK

section
variable {S : List Nat} {w : World} {r : Nat} {m : List E}
set_option maxHeartbeats 8000000 in
theorem rall14_any (h : IsRef S w r m) : Calls Try.prog 29 #[.pointer (some ⟨r, 0, none⟩)] w fun e w' => ∃ v ts, e = .returned v ∧ w'.ownsRow w.heap.size 29 13 v m.length (flatEn ts) ∧ ts.map Ent.e = m ∧ (∀ t ∈ ts, Svs w' t.e.sv t.A t.cap ∧ ∀ ad, t.A = some ad → w.heap.size ≤ ad.block) ∧ Below w.heap.size w w' := by
  obtain ⟨i0, hi, hz0, hz1, hz2⟩ := info_parts infoEn
  obtain ⟨A, cap, ts0, hbx, ht, h1, h2, hl, -, hok⟩ := h.row
  have HC0 := Lib.hid (fun (W : World) (hW : Below w.heap.size w W) => show W.cell? ⟨r, 0, none⟩ = some (.slice A m.length cap) from ((Kept.of hW []).blk hbx (by simp)).cell 0)
  have h1000 := h.few
  have HA := Lib.hid hl
  have HT0 := Lib.hid ht
  have HOK0 := Lib.hid (fun t ht => (hok t ht).1)
  obtain ⟨n, hn⟩ : ∃ n, m.length = n := ⟨_, rfl⟩
  rw [hn] at HC0 h1 h1000
  have HN := Lib.hid hn
  clear h hbx ht hl hn hok
  unfold maxLen at h2
  go_enter Try.func29, Try.ntmps29
  go_wp2
  go_loopw [3, 4] (fun s5 s10 wr => ∃ (k : Nat) (ts : List Ent), s10 = .int .i64 (k : Int) ∧ k ≤ n ∧ wr.ownsRow w.heap.size 29 13 s5 k (flatEn ts) ∧ ts.map Ent.e = m.take k ∧ (∀ t ∈ ts, Svs wr t.e.sv t.A t.cap ∧ (∀ ad, t.A = some ad → w.heap.size ≤ ad.block) ∧ Off s5.ownBlock.toList t.A (strs t.e.sv)) ∧ Below w.heap.size w wr) (fun _ i _ => n - (intOf i).toNat)
  case atStart => exact ⟨0, [], rfl, Nat.zero_le _, World.ownsRow_nil _ _ _ _, by simp, by simp, Below.refl _ _⟩
  case round =>
    obtain ⟨k, ts, rfl, hk, hrow, hts, hok, hbr⟩ := hrel
    have HROW := Lib.hid hrow
    have HBR := Lib.hid hbr
    have HTS := Lib.hid hts
    have HOKT := Lib.hid hok
    clear hrow hts hok
    by_cases hlt : k < n
    · have hka : k < m.length := by rw [HN.out]; exact hlt
      have hkt : k < ts0.length := by have := congrArg List.length HT0.out; simp at this; omega
      obtain ⟨ad, rfl, hadb, hcl⟩ := at_ent HA.out k hkt
      have hte : ts0[k].e = m[k] := by have := HT0.out; subst this; simp
      have hc0 := HC0.out wr hbr
      have hsv := HOK0.out ts0[k] (List.getElem_mem hkt)
      have hld := run_loadRow wr (ad.add (k * 13)) ts0[k] (hcl wr hbr)
      have hix := fun (W : World) => show (Instr.indexAt 22 (.slice (some ad) n cap) (.int .i64 (k : Int))).run Try.prog W = .ok (.pointer (some (ad.add (k * 13)))) W by go_simp
      have HT1 := Lib.hid (show m.take (k + 1) = m.take k ++ [m[k]] from List.take_succ_eq_append_getElem hka)
      generalize m[k] = y at *
      obtain ⟨t0, ht0⟩ : ∃ t, ts0[k] = t := ⟨_, rfl⟩
      rw [ht0] at hte hsv hld
      obtain ⟨y', A1, cap1⟩ := t0
      simp only at hte hsv hld
      subst hte
      obtain ⟨ny, hny⟩ : ∃ ny, y'.sv.length = ny := ⟨_, rfl⟩
      rw [hny] at hld
      have HOF := Lib.hid (fun (W : World) (hW : Below w.heap.size w W) => rown14_any y' A1 ny cap1 W hny (hsv.below hW))
      have HNY := Lib.hid hny
      have HNY9 := Lib.hid (show ny ≤ 9000 by have := hsv.few; omega)
      generalize ad.add (k * 13) = q at *
      unfold enA at hld HOF
      have HLD := Lib.hid hld
      clear hcl ht0 hsv hld hny
      generalize y' = y at *
      go_wp2_with (refine wpList_loadW rfl 29 _ rfl _ _ rfl HLD.out ?_)
      refine (HOF.out wr HBR.out).mono ?_
      rintro e w2 ⟨v, rfl, ho, d2⟩
      obtain ⟨A', cap', rfl, hS', hfr⟩ := row_svs ho HNY.out HNY9.out
      have HROW2 := Lib.hid (row_keep HROW.out d2)
      have HBR2 := Lib.hid (HBR.out.trans (d2.mono HBR.out.size))
      have HS2 := Lib.hid hS'
      have HFR := Lib.hid hfr
      have HOK2 := Lib.hid (show ∀ t ∈ ts, Svs w2 t.e.sv t.A t.cap ∧ (∀ ad, t.A = some ad → w.heap.size ≤ ad.block) ∧ Off u3.ownBlock.toList t.A (strs t.e.sv) from fun t ht => ⟨(HOKT.out t ht).1.below d2, (HOKT.out t ht).2⟩)
      have HLR := Lib.hid (show ∀ g, u3.ownBlock = some g → g < wr.heap.size ∧ w.heap.size ≤ g from fun g hg => by
        rcases HROW.out.2 with ⟨e2, -⟩ | ⟨g', cap, cur, e2, hbg, hgh, -⟩
        · rw [e2] at hg; cases hg
        · rw [e2] at hg; injection hg with hg; rw [← hg]; exact ⟨(Array.getElem?_eq_some_iff.1 hgh).1, hbg⟩)
      have HSW := Lib.hid (show w2.heap.size ≥ wr.heap.size from d2.size)
      have HTN := Lib.hid (flatEn_snoc ts ⟨y, A', cap'⟩)
      unfold entCs at HTN
      simp only [HNY.out] at HTN
      have HONE := Lib.hid (enA_one y A' ny cap')
      clear d2 ho hS' hfr
      obtain ⟨F0, hF0⟩ : ∃ F0, flatEn ts = F0 := ⟨_, rfl⟩
      have HF0 := Lib.hid hF0
      rw [hF0] at HROW2 HTN
      clear hF0
      obtain ⟨yid, ycl, yti, yco, ypi, ybi, ylo, yhi, yma, ysv, yse, ypl, ysz⟩ := y
      unfold enA at *
      simp only at *
      go_wp2_with (at_builtin; refine wpList_appK rfl _ _ 22 rfl w.heap.size 29 i0 _ 13 120 Try.underlying22 hi hz0 hz1 hz2 rfl (by decide) _ k F0 rfl ?b1 (some ⟨w2.heap.size, 0, none⟩) 1 1 [.int .i64 yid, .int .i64 ycl, .int .i64 yti, .int .i64 yco, .bool ypi, .int .i64 ybi, .int .i64 ylo, .int .i64 yhi, .int .i64 yma, .slice A' ny cap', .int .i64 yse, .int .i64 ypl, .int .i64 ysz] rfl rfl ?b2 ?b3 ?b4 ?b5 ?b6 ?b7)
      case b1 => exact HROW2.out.alloc _
      case b2 => exact Lies.new w2 #[.int .i64 yid, .int .i64 ycl, .int .i64 yti, .int .i64 yco, .bool ypi, .int .i64 ybi, .int .i64 ylo, .int .i64 yhi, .int .i64 yma, .slice A' ny cap', .int .i64 yse, .int .i64 ypl, .int .i64 ysz] _
      case b3 => exact HONE.out
      case b4 => unfold maxLen; omega
      case b5 => omega
      case b6 => have := HBR2.out.size; simp; omega
      case b7 =>
        intro v3 w3 hown3 hg3 hb3
        have HB3 := Lib.hid ((HBR2.out.alloc HBR2.out.size (.cells #[.int .i64 yid, .int .i64 ycl, .int .i64 yti, .int .i64 yco, .bool ypi, .int .i64 ybi, .int .i64 ylo, .int .i64 yhi, .int .i64 yma, .slice A' ny cap', .int .i64 yse, .int .i64 ypl, .int .i64 ysz] 29)).grown hg3 (Nat.le_trans HBR2.out.size (by simp)) (fun g e => (HLR.out g e).2))
        have HO3 := Lib.hid (show w3.ownsRow w.heap.size 29 13 v3 (k + 1) (flatEn (ts ++ [⟨⟨yid, ycl, yti, yco, ypi, ybi, ylo, yhi, yma, ysv, yse, ypl, ysz⟩, A', cap'⟩])) by rw [HTN.out]; exact hown3)
        have hkw := grown_kept hg3
        have key : ∀ (sv : List (List UInt8)) (B : Option Addr) (c : Nat), Svs w2 sv B c → Off u3.ownBlock.toList B (strs sv) → Svs w3 sv B c ∧ Off v3.ownBlock.toList B (strs sv) := fun sv B c h1 h2 => by
          refine ⟨(h1.below ((Below.refl _ _).alloc (Nat.le_refl _) _)).kept h2 hkw, ?_⟩
          rcases hb3 with e3 | e3
          · rw [e3]; exact h2
          · rw [e3]
            exact Off.of h1.lies (by simp)
        have HOK3 := Lib.hid (show ∀ t ∈ ts ++ [⟨⟨yid, ycl, yti, yco, ypi, ybi, ylo, yhi, yma, ysv, yse, ypl, ysz⟩, A', cap'⟩], Svs w3 t.e.sv t.A t.cap ∧ (∀ ad, t.A = some ad → w.heap.size ≤ ad.block) ∧ Off v3.ownBlock.toList t.A (strs t.e.sv) from fun t ht => by
          rcases List.mem_append.1 ht with ht | ht
          · obtain ⟨h1, h2, h3⟩ := HOK2.out t ht
            obtain ⟨h4, h5⟩ := key _ _ _ h1 h3
            exact ⟨h4, h2, h5⟩
          · rw [List.mem_singleton.1 ht]
            obtain ⟨h4, h5⟩ := key ysv A' cap' HS2.out (.inr fun ad e hm => by
              have h6 := HFR.out ad e
              have h7 := HLR.out ad.block (by simpa using hm)
              omega)
            exact ⟨h4, fun ad e => by have := HFR.out ad e; have := HBR.out.size; omega, h5⟩)
        have HL3 := Lib.hid (show (ts ++ [(⟨⟨yid, ycl, yti, yco, ypi, ybi, ylo, yhi, yma, ysv, yse, ypl, ysz⟩, A', cap'⟩ : Ent)]).map Ent.e = m.take (k + 1) by rw [List.map_append, HTS.out, HT1.out]; rfl)
        clear hown3 hg3 hb3 hkw key
        go_wp2
        go_roundw
        case rel => exact ⟨k + 1, _, by go_num, by omega, HO3.out, HL3.out, HOK3.out, HB3.out⟩
        case measure => simp [intOf]; omega
    · obtain rfl : k = n := by omega
      have hc0 := HC0.out wr hbr
      have HRE := Lib.hid (show ts.map Ent.e = m by rw [HTS.out, List.take_of_length_le (by rw [HN.out]; omega)])
      have HB := HBR.out
      go_wp2
      go_ret
      exact ⟨_, ts, rfl, by rw [HN.out]; exact HROW.out, HRE.out, fun t ht => ⟨(HOKT.out t ht).1, (HOKT.out t ht).2.1⟩, HB⟩
end
end Go.Proofs.Ytcoedohfggeaiaa
