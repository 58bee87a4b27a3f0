/-
  Layer 12, the document's answer (turntableref12): its All: the same plain function as frame.All's. Assumed: that the bytes lie in memory, and that there are at most a million.
-/
import Derived.Test.YtchfiekepjndeaaFrD

namespace Go.Proofs.Ytchfiekepjndeaa
open Go.RowKit Go.Shelf
set_option maxRecDepth 100000

theorem PRow.add {B : Nat} {wr w2 w4 : World} {v v' : Value} {L : List PV} {p : Nat} {b : List UInt8} {vb : Value} {tmp : Obj} (h : PRow B wr v L) (hB : B ≤ wr.heap.size) (hb : Below wr.heap.size wr w2) (hvb : w2.ownsRow wr.heap.size 5 1 vb b.length (cells b)) (h1 : 1 ≤ b.length)
    (hrow : w4.ownsRow B 35 3 v' (L.length + 1) (flatP L ++ [.int .i64 (p : Int), .int .i64 ((⟨p, b⟩ : Fra.P).sz : Int), vb])) (hg : (w2.alloc tmp).grownBy w4 v.ownBlock) : PRow B w4 v' (L ++ [(⟨p, b⟩, vb)]) := by
  have hR2 := h.below hb
  have KU : ∀ (g : Nat) (cs : Array Value) (m : Nat × Nat), w2.heap[g]? = some (.cells cs 5 m) → w4.heap[g]? = some (.cells cs 5 m) := fun g cs m hg2 => by
    have hlt := (Array.getElem?_eq_some_iff.1 hg2).1
    have h3 := (heap_alloc_old w2 tmp hlt).trans hg2
    refine (hg.block g (by simp; omega) (fun e => ?_)).trans h3
    rcases (hR2.row.alloc tmp).2 with ⟨rfl, _⟩ | ⟨g2, cap1, cur, rfl, hbg, hgh, _⟩
    · simp [Value.ownBlock] at e
    · have e' : g = g2 := by simpa [Value.ownBlock] using e
      subst e'
      rw [hgh] at h3
      injection h3 with h3
      injection h3 with q1 q2 q3
      exact absurd q2 (by decide)
  refine ⟨?_, ?_, ?_⟩
  · rw [List.length_append, List.length_singleton, flatP_snoc]; exact hrow
  · intro y hy
    rcases List.mem_append.1 hy with hy | hy
    · exact ⟨(hR2.each y hy).1, own_typed (hR2.each y hy).2 KU⟩
    · simp only [List.mem_singleton] at hy
      subst hy
      exact ⟨h1, own_base (own_typed hvb KU) hB⟩
  · refine List.pairwise_append.2 ⟨h.apart, List.pairwise_singleton _ _, fun y hy z hz => ?_⟩
    simp only [List.mem_singleton] at hz
    subst hz
    obtain ⟨gy, cy, uy, hyv, _, _⟩ := own_some (h.each y hy).2 (h.each y hy).1
    have hlt2 := ((h.each y hy).2.lt gy (by rw [hyv]; rfl)).2
    obtain ⟨gz, cz, uz, hzv, hzb, _⟩ := own_some hvb h1
    rw [hyv, hzv]
    simp [Value.ownBlock]
    omega
theorem slice12_mid (W : World) (ad : Addr) (n cap k j : Nat) (lo hi : Int) (hlo : lo = (k : Int)) (hhi : hi = ((k + j : Nat) : Int)) (h : k + j ≤ cap) (hk : k < cap) : (Instr.sliceAt 22 (.slice (some ad) n cap) (some (.int .i64 lo)) (some (.int .i64 hi)) none).run Try.prog W = .ok (.slice (some (ad.add k)) j (cap - k)) W := by
  subst hlo
  obtain ⟨q, hq⟩ : ∃ q, k + j = q := ⟨_, rfl⟩
  rw [hq] at hhi
  subst hhi
  obtain rfl : j = q - k := by omega
  have h2 : ¬ cap = k := by omega
  have h3 : ¬ cap < q := by omega
  have h4 : ¬ q < k := by omega
  have h5 : q ≤ cap := by omega
  have h6 : k ≤ q := by omega
  clear hq h
  go_simp

set_option maxHeartbeats 4000000 in
theorem rall12_any (A : Option Addr) (n cap : Nat) (bs : List UInt8) (w : World) (hn : bs.length = n) (hN : n ≤ 1000000) (hnc : n ≤ cap) (hcm : cap ≤ maxLen) (hA : Lies w A (cells bs)) :
    Calls Try.prog 10 #[.slice A n cap] w fun e w' => ∃ v, e = .returned (.tuple #[v, .int .i64 (Fra.tot (Fra.all bs) : Int)]) ∧ GivesP w w' (Fra.all bs) v := by
  obtain ⟨i0, hi, hz0, hz1, hz2⟩ := info_parts infoPart
  obtain ⟨j0, hj, hj0, hj1, hj2⟩ := info_parts infoU8
  have HN := Lib.hid hn
  have HA := Lib.hid hA
  clear hA hn
  go_enter Try.func10, Try.ntmps10
  go_wp2_with fail
  go_loopw [4, 5] (fun vo va wr => ∃ L : List PV, va = .int .i64 (Fra.tot (L.map (·.1)) : Int) ∧ Fra.Pre bs (L.map (·.1)) ∧ PRow w.heap.size wr vo L ∧ Below w.heap.size w wr) (fun _ va _ => n - (intOf va).toNat)
  case atStart => exact ⟨[], rfl, .nil, PRow.nil _ _, Below.refl _ _⟩
  case round =>
    obtain ⟨L, rfl, hp, hR, hbr⟩ := hrel
    have hlen := hp.len
    rw [HN.out] at hlen
    have hHP := Lib.hid hp
    have HR := Lib.hid hR
    have HB := Lib.hid hbr
    have hLl : 2 * L.length ≤ Fra.tot (L.map (·.1)) := by simpa using hlen.1
    have hpn := hlen.2
    clear hp hR hbr hlen
    by_cases hlt : Fra.tot (L.map (·.1)) < n
    · have LD := HA.out.drop (k := Fra.tot (L.map (·.1))) (cap := cap) (by rw [cells_length, HN.out]; exact hnc)
      rw [cells_drop] at LD
      have hsl := fun W => slice12_lo A n cap (Fra.tot (L.map (·.1))) W hpn hnc hcm
      have hdl : (bs.drop (Fra.tot (L.map (·.1)))).length = n - Fra.tot (L.map (·.1)) := by rw [List.length_drop, HN.out]
      have hg := fun W2 X K C (hL : Lies W2 (if cap = Fra.tot (L.map (·.1)) then A else A.map (·.add (Fra.tot (L.map (·.1))))) (cells (bs.drop (Fra.tot (L.map (·.1)))))) => rget_is _ (n - Fra.tot (L.map (·.1))) (cap - Fra.tot (L.map (·.1))) _ W2 X K C hdl (by unfold maxLen; omega) hL
      have HLD := Lib.hid (LD.below HB.out)
      have hsm := Plain.get_small (bs.drop (Fra.tot (L.map (·.1))))
      have hcc := Plain.code_cases (bs.drop (Fra.tot (L.map (·.1))))
      rw [hdl] at hsm
      by_cases hf : (Fra.first (bs.drop (Fra.tot (L.map (·.1))))).2 = 0
      · have HAL := Lib.hid (hHP.out.all hf)
        have hno : ¬ ((Plain.get (bs.drop (Fra.tot (L.map (·.1))))).2.2 = 0 ∧ 1 ≤ (Plain.get (bs.drop (Fra.tot (L.map (·.1))))).1 ∧ (Plain.get (bs.drop (Fra.tot (L.map (·.1))))).1 ≤ 3600 ∧ (Plain.get (bs.drop (Fra.tot (L.map (·.1))))).2.1 + (Plain.get (bs.drop (Fra.tot (L.map (·.1))))).1 ≤ n - Fra.tot (L.map (·.1))) := by
          intro h
          unfold Fra.first at hf
          rw [hdl, if_pos h] at hf
          simp only at hf
          omega
        have HFIN := Lib.hid (show ∀ (v : Value) (w' : World), PRow w.heap.size w' v L → Below w.heap.size w w' → ∃ v', Ending.returned (.tuple #[v, .int .i64 (Fra.tot (L.map (·.1)) : Int)]) = .returned (.tuple #[v', .int .i64 (Fra.tot (Fra.all bs) : Int)]) ∧ GivesP w w' (Fra.all bs) v' from
          fun v w' h1 h2 => ⟨v, by rw [HAL.out], L, HAL.out.symm, h1, h2⟩)
        clear hf LD hdl HAL
        generalize Plain.get (bs.drop (Fra.tot (L.map (·.1)))) = g at *
        generalize (if cap = Fra.tot (L.map (·.1)) then A else A.map (·.add (Fra.tot (L.map (·.1))))) = AP at *
        generalize bs.drop (Fra.tot (L.map (·.1))) = rest at *
        generalize Fra.tot (L.map (·.1)) = p at *
        obtain ⟨x, j, code⟩ := g
        simp only at *
        by_cases h0 : code = 0
        · subst h0
          have HG := Lib.hid (hg wr x j 0 HLD.out rfl rfl rfl)
          clear hg hcc
          by_cases h1 : x < 1
          · have d1 : decide ((x : Int) < 1) = true := by simp; omega
            clear hno
            go_wp2_with fail
            refine HG.out.mono ?_
            rintro e w1 ⟨rfl, rfl⟩
            go_wp2
            go_returns
            exact HFIN.out _ _ HR.out HB.out
          · have d1 : decide ((x : Int) < 1) = false := by simp; omega
            by_cases h2 : 3600 < x
            · have d2 : decide ((3600 : Int) < (x : Int)) = true := by simp; omega
              clear hno
              go_wp2_with fail
              refine HG.out.mono ?_
              rintro e w1 ⟨rfl, rfl⟩
              go_wp2
              go_returns
              exact HFIN.out _ _ HR.out HB.out
            · have d2 : decide ((3600 : Int) < (x : Int)) = false := by simp; omega
              have d3 : decide ((n : Int) - (p : Int) - (j : Int) < (x : Int)) = true := by simp; omega
              clear hno
              go_wp2_with fail
              refine HG.out.mono ?_
              rintro e w1 ⟨rfl, rfl⟩
              go_wp2
              go_returns
              exact HFIN.out _ _ HR.out HB.out
        · have HG := Lib.hid (hg wr x j code HLD.out rfl rfl rfl)
          have d1 : ((code : Int) != 0) = true := by rw [bne_iff_ne]; omega
          clear hg hno hcc h0
          go_wp2_with fail
          refine HG.out.mono ?_
          rintro e w1 ⟨rfl, rfl⟩
          go_wp2
          go_returns
          exact HFIN.out _ _ HR.out HB.out
      · have hne : bs ≠ [] := by
          rintro rfl
          rw [List.drop_nil] at hf
          exact hf rfl
        obtain ⟨ad, rfl⟩ : ∃ ad, A = some ad := by
          rcases A with _ | ad
          · rcases HA.out with h | ⟨_, h, _⟩
            · exact absurd (by simpa [cells] using h) hne
            · cases h
          · exact ⟨ad, rfl⟩
        have hfb := Fra.first_back _ hf
        have hplt : ¬ cap = Fra.tot (L.map (·.1)) := by omega
        rw [if_neg hplt] at LD hsl hg HLD
        simp only [Option.map_some] at LD hsl hg HLD
        have hgv : (Plain.get (bs.drop (Fra.tot (L.map (·.1))))).2.2 = 0 ∧ (Plain.get (bs.drop (Fra.tot (L.map (·.1))))).1 = (Fra.first (bs.drop (Fra.tot (L.map (·.1))))).2 ∧ (Plain.get (bs.drop (Fra.tot (L.map (·.1))))).2.1 = (Fra.first (bs.drop (Fra.tot (L.map (·.1))))).1 := by
          unfold Fra.first at hf ⊢
          split at hf
          · rename_i h
            rw [if_pos h]
            exact ⟨h.1, rfl, rfl⟩
          · exact absurd rfl hf
        have HS := Lib.hid (hHP.out.snoc hf)
        have hnl := Fra.nxt_len bs (Fra.tot (L.map (·.1))) hf
        have hns := Fra.nxt_sz bs (Fra.tot (L.map (·.1))) hf
        have hts := Fra.tot_snoc (L.map (·.1)) (Fra.nxt bs (Fra.tot (L.map (·.1))))
        rw [hns] at hts
        have HG := Lib.hid (hg wr _ _ 0 HLD.out (by rw [hgv.2.1]) (by rw [hgv.2.2]) (by rw [hgv.1]; rfl))
        obtain ⟨h1, h2, h3, h4, -⟩ := hfb
        rw [hdl] at h4
        have hk0 : 1 ≤ (Fra.first (bs.drop (Fra.tot (L.map (·.1))))).1 := by
          have := Fra.head_is _ h2
          split at this <;> omega
        have HBL := Lib.hid (show Lies w (some (ad.add (Fra.tot (L.map (·.1)) + (Fra.first (bs.drop (Fra.tot (L.map (·.1))))).1))) (cells (Fra.nxt bs (Fra.tot (L.map (·.1)))).b) by
          have q2 := LD.drop (k := (Fra.first (bs.drop (Fra.tot (L.map (·.1))))).1) (cap := cap - Fra.tot (L.map (·.1))) (by rw [cells_length, List.length_drop, HN.out]; omega)
          rw [if_neg (by omega), cells_drop] at q2
          have q3 := q2.take (Fra.first (bs.drop (Fra.tot (L.map (·.1))))).2
          rw [cells_take] at q3
          simpa [addr_add, Fra.nxt] using q3)
        have hxp : (Fra.nxt bs (Fra.tot (L.map (·.1)))).p = Fra.tot (L.map (·.1)) := rfl
        clear hgv hg hf hcc hsm LD hne hplt hdl h3 HLD
        obtain ⟨k, hk⟩ : ∃ k, (Fra.first (bs.drop (Fra.tot (L.map (·.1))))).1 = k := ⟨_, rfl⟩
        obtain ⟨m, hm⟩ : ∃ m, (Fra.first (bs.drop (Fra.tot (L.map (·.1))))).2 = m := ⟨_, rfl⟩
        rw [hk] at hns hts h4 hk0 HBL
        rw [hm] at hnl hns hts h1 h2 h4
        rw [hk, hm] at HG
        clear hk hm
        have hmap : ∀ vb : Value, (L ++ [(Fra.nxt bs (Fra.tot (L.map (·.1))), vb)]).map (·.1) = L.map (·.1) ++ [Fra.nxt bs (Fra.tot (L.map (·.1)))] := fun vb => by simp
        have HMAP := Lib.hid hmap
        clear hmap
        obtain ⟨⟨xp, xb⟩, hx⟩ : ∃ x, Fra.nxt bs (Fra.tot (L.map (·.1))) = x := ⟨_, rfl⟩
        rw [hx] at HS hnl hns hts HBL hxp HMAP
        simp only at hnl hxp
        subst hxp
        clear hx
        have HTS := Lib.hid hts
        have HNS := Lib.hid hns
        have HXB := Lib.hid hnl
        have hLM : L.length + 1 ≤ 1000000 := by omega
        have d1 : decide ((m : Int) < 1) = false := by simp; omega
        have d2 : decide ((3600 : Int) < (m : Int)) = false := by simp; omega
        clear hts hns hnl
        generalize bs.drop (Fra.tot (L.map (·.1))) = rest at *
        generalize hpq : Fra.tot (L.map (·.1)) = p at *
        clear hpq
        have d3 : decide ((n : Int) - (p : Int) - (k : Int) < (m : Int)) = false := by simp; omega
        have hsd := fun W => slice12_mid W ad n cap (p + k) m ((p : Int) + (k : Int)) ((p : Int) + (k : Int) + (m : Int)) (by omega) (by omega) (by omega) (by omega)
        go_wp2_with fail
        refine HG.out.mono ?_
        rintro e w1 ⟨rfl, rfl⟩
        have hbn : Below wr.heap.size wr (wr.alloc (.cells #[] 5)) := (Below.refl _ _).alloc (Nat.le_refl _) _
        have HLB := Lib.hid (HBL.out.below (HB.out.trans (hbn.mono HB.out.size)))
        have hcl : (cells xb).length = m := by rw [cells_length, HXB.out]
        have HCL := Lib.hid hcl
        have HC1 := Lib.hid (cells_one xb)
        clear hcl
        go_wp2_with (at_builtin; refine wpList_app rfl _ _ 22 rfl wr.heap.size 5 j0 (.int .u8 0) Try.underlying22 hj hj0 hj1 hj2 rfl (.slice (some ⟨wr.heap.size, 0, none⟩) 0 0) 0 [] rfl ?a1 (some (ad.add (p + k))) m (cap - (p + k)) (cells xb) rfl HCL.out HLB.out HC1.out ?a4 ?a5 ?a6)
        case a1 => exact World.ownsRow_lit wr #[] 0 (Nat.le_refl _) (by unfold maxLen; omega) rfl
        case a4 => omega
        case a5 => simp
        case a6 =>
          intro vb w2 hownb hg2 _
          have hb2 : Below wr.heap.size wr w2 := hbn.grown hg2 (by simp) (fun g hg => by simp [Value.ownBlock] at hg; omega)
          have hvb : w2.ownsRow wr.heap.size 5 1 vb xb.length (cells xb) := by rw [HXB.out]; simpa using hownb
          have HVB := Lib.hid hvb
          have HB2 := Lib.hid hb2
          have hs2 := hb2.size
          have hsB := HB.out.size
          obtain ⟨gb, capb, curb, rfl, hgbl, hgbh⟩ := own_some hvb (by rw [HXB.out]; exact h1)
          rw [HXB.out] at HVB ⊢
          clear hvb hownb hg2 hb2 hgbh
          go_wp2_with (at_builtin; refine wpList_appK rfl _ _ 24 rfl w.heap.size 35 i0 (.agg #[.int .i64 0, .int .i64 0, .slice none 0 0]) 3 40 Try.underlying24 hi hz0 hz1 hz2 rfl (by decide) u4 L.length (flatP L) rfl ?b1 (some ⟨w2.heap.size, 0, none⟩) 1 1 [.int .i64 (p : Int), .int .i64 ((k : Int) + (m : Int)), .slice (some ⟨gb, 0, none⟩) m capb] rfl rfl ?b2 ?b3 ?b4 ?b5 ?b6 ?b7)
          case b1 => exact (HR.out.below HB2.out).row.alloc _
          case b2 => exact Lies.new w2 #[.int .i64 (p : Int), .int .i64 ((k : Int) + (m : Int)), .slice (some ⟨gb, 0, none⟩) m capb] 35
          case b3 => simp [Value.oneCell']
          case b4 => unfold maxLen; omega
          case b5 => omega
          case b6 => simp; omega
          case b7 =>
            intro v' w4 hown' hgrow _
            have hb4 : Below w.heap.size w w4 := ((HB.out.trans (HB2.out.mono hsB)).alloc (by omega) (.cells #[.int .i64 (p : Int), .int .i64 ((k : Int) + (m : Int)), .slice (some ⟨gb, 0, none⟩) m capb] 35)).grown hgrow (by simp; omega) (fun g hg => (HR.out.row.lt g hg).1)
            have hadd := PRow.add (p := p) (b := xb) HR.out hsB HB2.out (by rw [HXB.out]; exact HVB.out) (by rw [HXB.out]; exact h1) (by rw [HNS.out, Int.natCast_add]; exact hown') hgrow
            have HB4 := Lib.hid hb4
            have HAD := Lib.hid hadd
            clear hown' hgrow hb4 hadd
            go_wp2
            go_roundw
            case rel => exact ⟨L ++ [(⟨p, xb⟩, .slice (some ⟨gb, 0, none⟩) m capb)], by rw [HMAP.out, HTS.out]; go_num, by rw [HMAP.out]; exact HS.out, HAD.out, HB4.out⟩
            case measure => first | omega | (simp [intOf]; omega)
    · have hpe : Fra.tot (L.map (·.1)) = n := by omega
      have HAL := Lib.hid (hHP.out.all (by rw [List.drop_eq_nil_of_le (by rw [HN.out]; omega)]; rfl))
      have HFIN := Lib.hid (show ∀ (v : Value) (w' : World), PRow w.heap.size w' v L → Below w.heap.size w w' → ∃ v', Ending.returned (.tuple #[v, .int .i64 (Fra.tot (L.map (·.1)) : Int)]) = .returned (.tuple #[v', .int .i64 (Fra.tot (Fra.all bs) : Int)]) ∧ GivesP w w' (Fra.all bs) v' from
        fun v w' h1 h2 => ⟨v, by rw [HAL.out], L, HAL.out.symm, h1, h2⟩)
      clear HAL
      generalize Fra.tot (L.map (·.1)) = p at *
      go_wp2
      go_returns
      exact HFIN.out _ _ HR.out HB.out
end Go.Proofs.Ytchfiekepjndeaa
