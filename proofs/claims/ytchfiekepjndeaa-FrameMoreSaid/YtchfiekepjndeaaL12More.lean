/-
  P12.1, FrameMore: for all bytes the law returns true: what any bytes begin with has just these bytes; what is behind it is no frame; what is handed out is one's own. No condition.
-/
import Derived.Test.YtchfiekepjndeaaL12S
import Derived.BigRegion
namespace Go.Proofs.Ytchfiekepjndeaa.frameMore
open Go.ChangeShapes Go.WideShapes Go.ChangeAt Go.RowKit

/-- the first parts' frames -/
def flat (L : List PV) (k : Nat) : List UInt8 := ((L.take k).map fun x => Fra.put x.1.b).flatten
theorem flat_succ (L : List PV) (k : Nat) (h : k < L.length) : flat L (k + 1) = flat L k ++ Fra.put L[k].1.b := by
  unfold flat
  rw [List.take_succ_eq_append_getElem h]
  simp only [List.map_append, List.flatten_append, List.map_cons, List.map_nil, List.flatten_cons, List.flatten_nil, List.append_nil]
theorem flat_all (L : List PV) : flat L L.length = ((L.map (·.1)).map fun x => Fra.put x.b).flatten := by
  unfold flat
  rw [List.take_length, List.map_map]
  rfl
theorem flat_len (L : List PV) (k : Nat) : (flat L k).length ≤ (flat L L.length).length := by
  unfold flat
  rw [List.take_length]
  conv => rhs; rw [← List.take_append_drop k L]
  rw [List.map_append, List.flatten_append, List.length_append]
  omega

/-- the parts' row, and the bodies from a place on -/
structure Rows (B : Nat) (v : Value) (L : List PV) (k : Nat) (W : World) : Prop where
  row : W.ownsRow B 35 3 v L.length (flatP L)
  each : ∀ j (h : j < L.length), k ≤ j → W.ownsRow B 5 1 L[j].2 L[j].1.b.length (cells L[j].1.b)
theorem Rows.of {B : Nat} {v : Value} {L : List PV} {W : World} (h : PRow B W v L) : Rows B v L 0 W := ⟨h.row, fun _ hj _ => (h.each _ (List.getElem_mem hj)).2⟩
theorem Rows.below {B : Nat} {v : Value} {L : List PV} {k : Nat} {W W' : World} (h : Rows B v L k W) (hb : Below W.heap.size W W') : Rows B v L k W' :=
  ⟨own_typed h.row fun g _ _ hg => (hb.block g (Array.getElem?_eq_some_iff.1 hg).1).trans hg, fun j hj hk => own_typed (h.each j hj hk) fun g _ _ hg => (hb.block g (Array.getElem?_eq_some_iff.1 hg).1).trans hg⟩
theorem kept_own {W W' : World} {g B n size : Nat} {v : Value} {e : TypeId} {xs : List Value} (h : W.ownsRow B e size v n xs) (hk : Kept [g] W W') (hne : v.ownBlock ≠ some g) : W'.ownsRow B e size v n xs := by
  refine ⟨h.1, ?_⟩
  rcases h.2 with hn | ⟨g2, cap, cur, rfl, hb, hgg, rest⟩
  · exact .inl hn
  · refine .inr ⟨g2, cap, cur, rfl, hb, (hk.block g2 (Array.getElem?_eq_some_iff.1 hgg).1 ?_).trans hgg, rest⟩
    intro hm
    simp only [List.mem_singleton] at hm
    exact hne (by rw [hm]; rfl)
/-- a body may turn -/
theorem Rows.kept {B : Nat} {v : Value} {L : List PV} {k g : Nat} {W W' : World} (h : Rows B v L k W) (hk : Kept [g] W W') (hr : v.ownBlock ≠ some g) (he : ∀ j (h : j < L.length), k + 1 ≤ j → L[j].2.ownBlock ≠ some g) : Rows B v L (k + 1) W' :=
  ⟨kept_own h.row hk hr, fun j hj hkj => kept_own (h.each j hj (by omega)) hk (he j hj hkj)⟩
theorem other_type {W : World} {B n m s1 s2 : Nat} {v u : Value} {e1 e2 : TypeId} {xs ys : List Value} (h : W.ownsRow B e1 s1 v n xs) (g : Nat) (k : W.ownsRow B e2 s2 u m ys) (hu : u.ownBlock = some g) (hne : e1 ≠ e2) : v.ownBlock ≠ some g := by
  intro hv
  rcases h.2 with ⟨rfl, _⟩ | ⟨g1, c1, cur1, rfl, _, h1, _⟩
  · cases hv
  · rcases k.2 with ⟨rfl, _⟩ | ⟨g2, c2, cur2, rfl, _, h2, _⟩
    · cases hu
    · have q1 : g1 = g := by simpa [Value.ownBlock] using hv
      have q2 : g2 = g := by simpa [Value.ownBlock] using hu
      subst q1 q2
      rw [h1] at h2
      injection h2 with h2
      injection h2 with a b c
      exact hne b

set_option maxHeartbeats 8000000 in
set_option maxRecDepth 100000 in
theorem walkN (w : World) (A : Option Addr) (n cap : Nat) (bs : List UInt8) (hn : bs.length = n) (hnc : n ≤ cap) (hcm : cap ≤ maxLen) (hA : Lies w A (cells bs)) :
    Calls Try.prog 6 #[.slice A n cap] w fun e w' => e = .returned (.bool true) ∧ Below w.heap.size w w' := by
  have HN := Lib.hid hn
  have HA := Lib.hid hA
  clear hn hA
  go_enter Try.func6, Try.ntmps6
  go_wp2_with fail
  refine (head12_any w).mono ?_
  rintro e w1 ⟨rfl, c1⟩
  have HC1 := Lib.hid c1
  clear c1
  by_cases h2 : 20000 < n
  · have hz : (20000 : Int) < (n : Int) := by omega
    go_wp2
    go_ret
    exact ⟨rfl, HC1.out⟩
  have hz : ¬ (20000 : Int) < (n : Int) := by omega
  have hcv := conv_str (P := Try.prog) (c := cap) (HA.out.below HC1.out) 22 5 Try.underlying22 Try.underlying5 9 Try.underlying9
  rw [HN.out] at hcv
  have HF := Lib.hid (fall_any A n cap bs w1 HN.out (by omega) hnc hcm (HA.out.below HC1.out))
  go_wp2_with fail
  refine HF.out.mono ?_
  rintro e w2 ⟨v1, rfl, L, hL, hR, c2⟩
  obtain ⟨A1, cp1, rfl, hlc1, hcm1, -⟩ := hR.read
  obtain ⟨hby, htl, hbeh⟩ := Fra.all_bytes bs
  have hfl : flat L L.length = bs.take (Fra.tot (Fra.all bs)) := by rw [flat_all, hL]; exact hby
  have hql : L.length ≤ 20000 := by
    have h1 := (Fra.all_pre bs).1.len
    have h3 : L.length = (Fra.all bs).length := by have := congrArg List.length hL; simpa using this
    have := HN.out
    omega
  have hT : Fra.tot (Fra.all bs) ≤ n := by rw [← HN.out]; exact htl
  have HEACH := Lib.hid hR.each
  have HAP := Lib.hid hR.apart
  have HRS := Lib.hid (Rows.of hR)
  have HB2 := Lib.hid c2
  have HFL := Lib.hid hfl
  have HBH := Lib.hid hbeh
  have hs1 := HC1.out.size
  clear hR hby htl hbeh hfl HF c2 hcv hL
  generalize Fra.tot (Fra.all bs) = T at *
  obtain ⟨q, hq⟩ : ∃ q, L.length = q := ⟨_, rfl⟩
  rw [hq] at hql hlc1 HFL ⊢
  have HQ := Lib.hid hq
  clear hq
  go_wp2_with fail
  go_loopw [7, 8] (fun vs vi wr => ∃ k : Nat, vi = .int .i64 k ∧ k ≤ q ∧ vs = .string (str (flat L k)) ∧ Below w1.heap.size w1 wr ∧ Rows w1.heap.size (.slice A1 q cp1) L k wr) (fun _ vi _ => q - (intOf vi).toNat)
  case atStart => exact ⟨0, rfl, Nat.zero_le _, rfl, HB2.out, by have := HRS.out; rw [HQ.out] at this; exact this⟩
  case round =>
    obtain ⟨k, rfl, hk, rfl, hbr, hro⟩ := hrel
    have HBR := Lib.hid hbr
    have HRO := Lib.hid hro
    have hsr := hbr.size
    clear hbr hro
    by_cases hlt : k < q
    · have hkl : k < L.length := by rw [HQ.out]; exact hlt
      obtain ⟨A', cp', ev, -, -, hLR⟩ := own_form3 HRO.out.row
      injection ev with e1 e2 e3
      subst e1 e3
      clear e2
      obtain ⟨ad, rfl, hadb, hc⟩ := at_part hLR k hkl
      have y2 := (hc wr (Below.refl _ _)).2.2
      have hrk := HRO.out.each k hkl (Nat.le_refl _)
      obtain ⟨h1b, -⟩ := HEACH.out L[k] (List.getElem_mem hkl)
      obtain ⟨gb, capb, curb, hvb, hgb, -⟩ := own_some hrk h1b
      have hobk : L[k].2.ownBlock = some gb := by rw [hvb]; rfl
      have hno : (Value.slice (some ad) q cp1).ownBlock ≠ some gb := other_type HRO.out.row gb hrk hobk (by decide)
      have HNE := Lib.hid (show ∀ j (h : j < L.length), k + 1 ≤ j → L[j].2.ownBlock ≠ some gb from fun j hj hkj e => by
        have := List.pairwise_iff_getElem.1 HAP.out k j hkl hj (by omega)
        rw [hobk] at this
        exact this e.symm)
      have HFS := Lib.hid (flat_succ L k hkl)
      have hfl1 := flat_len L k
      have hfl2 := flat_len L (k + 1)
      rw [HQ.out, HFL.out] at hfl1 hfl2
      rw [HFS.out] at hfl2
      have htk : (bs.take T).length ≤ n := by rw [List.length_take, HN.out]; omega
      rw [List.length_append] at hfl2
      have HBC := Lib.hid (fun (u : World) (h : Below wr.heap.size wr u) => (hc u h).2.2)
      rw [hvb] at y2 hrk
      rw [hvb] at HBC
      have HRK := Lib.hid hrk
      clear hc hvb hLR hobk h1b
      generalize L[k].1.b = b at *
      obtain ⟨m, hm⟩ : ∃ m, b.length = m := ⟨_, rfl⟩
      rw [hm] at y2 HBC HRK
      have HM := Lib.hid hm
      clear hm hrk
      have HP := Lib.hid (fput_any (some ⟨gb, 0, none⟩) m capb b wr HM.out (Lies.own HRK.out))
      have hplen := Fra.put_length b
      have hq1 : (str (flat L k)).size + (str (Fra.put b)).size ≤ 9223372036854775807 := by rw [str_size, str_size]; omega
      have HSA := Lib.hid (show str (flat L k) ++ str (Fra.put b) = str (flat L (k + 1)) by rw [str_append, HFS.out])
      generalize Fra.put b = pb at *
      clear hfl1 hfl2 htk hplen
      go_wp2_with fail
      refine HP.out.mono ?_
      rintro e w3 ⟨v3, rfl, ho3, c3⟩
      have hcs := own_str ho3 22 Try.underlying22 Try.underlying5 9 Try.underlying9
      have y3 := HBC.out w3 c3
      generalize str (flat L k) = S0 at *
      generalize str pb = S1 at *
      have hgb3 : gb < wr.heap.size := (HRK.out.lt gb rfl).2
      have hs3 := c3.size
      have hmm : m ≤ 9223372036854775807 := by
        obtain ⟨_, _, e, h1, h2, _, _⟩ := own_form HRK.out
        unfold maxLen at h2
        omega
      have hgb3w : gb < w3.heap.size := by omega
      have hadn : ad.block ≠ gb := by intro e; exact hno (by rw [← e]; rfl)
      have hadw : ad.block < w3.heap.size := by omega
      have HRO3 := Lib.hid (HRO.out.below c3)
      have HRK3 := Lib.hid (own_typed HRK.out fun g _ _ hg => (c3.block g (Array.getElem?_eq_some_iff.1 hg).1).trans hg)
      have HB3 := Lib.hid (HBR.out.trans (c3.mono hsr))
      have HC3 := Lib.hid c3
      clear ho3 c3 HP
      go_wp2_with fail
      go_loopw [9] (fun vj wi => ∃ (j : Nat) (X : List UInt8), vj = .int .i64 j ∧ j ≤ m ∧ wi.ownsRow w1.heap.size 5 1 (.slice (some ⟨gb, 0, none⟩) m capb) m (cells X) ∧ Kept [gb] w3 wi) (fun vj _ => m - (intOf vj).toNat)
      case atStart => exact ⟨0, b, rfl, Nat.zero_le _, HRK3.out, Kept.refl _ _⟩
      case round =>
        obtain ⟨j, X, rfl, hj, hown, hkp⟩ := hrel
        have HKP := Lib.hid hkp
        clear hkp
        have yi : wr.cell? ⟨(ad.add (k * 3)).block, (ad.add (k * 3)).off + 2, none⟩ = some (.slice (some ⟨gb, 0, none⟩) m capb) := by
          rw [← y3]
          exact World.cell?_of_block (HKP.out.block _ (by rw [addr_block]; exact hadw) (by rw [addr_block]; simpa using hadn))
        have hXl : X.length = m := by have := hown.1; rw [cells_length] at this; omega
        have HOW := Lib.hid hown
        by_cases hjm : j < m
        · have hfz := hown.frozenAt j
          have hcc := hown.cellAt j (by omega)
          rw [List.getElem?_eq_getElem (by rw [cells_length]; omega), cells_at X j (by omega)] at hcc
          have hcv := (X[j]'(by omega)).toNat_lt
          generalize (X[j]'(by omega)).toNat = cv at hcc hcv
          clear hown
          go_wp2
          go_region
          go_wp2
          go_roundw
          case rel =>
            have h2 := (HOW.out.stored j (.int .u8 (((cv : Int) + 1) % 256))).1
            have e2 : (cells X).set j (.int .u8 (((cv : Int) + 1) % 256)) = cells (X.set j (UInt8.ofNat ((cv + 1) % 256))) := by
              unfold cells
              rw [List.map_set]
              congr 2
              rw [UInt8.toNat_ofNat', Nat.mod_eq_of_lt (by omega)]
              omega
            rw [e2] at h2
            have h3 := HKP.out.setCell (p := ⟨gb, j, none⟩) (by simp) (.int .u8 (((cv : Int) + 1) % 256))
            exact ⟨j + 1, _, by go_num, by omega, h2.drew, ⟨h3.os, h3.tape, h3.output, h3.size, h3.block⟩⟩
          case measure => simp [intOf]; omega
        · obtain rfl : j = m := by omega
          clear hown
          go_wp2
          go_roundw
          case rel => exact ⟨k + 1, by go_num, by omega, by rw [HSA.out], Kept.below HB3.out HKP.out (by simpa using hgb), HRO3.out.kept HKP.out hno HNE.out⟩
          case measure => simp [intOf]; omega
    · obtain rfl : k = q := by omega
      have hBW := HC1.out.trans (HBR.out.mono HC1.out.size)
      have hcv2 := conv_str (P := Try.prog) (c := cap) (HA.out.below hBW) 22 5 Try.underlying22 Try.underlying5 9 Try.underlying9
      rw [HN.out] at hcv2
      have hsl := fun W => slice12_lo A n cap T W hT hnc hcm
      have hss := fun W => slice_str W bs T (by rw [HN.out]; exact hT)
      have LD := (HA.out.below hBW).drop (k := T) (cap := cap) (by rw [cells_length, HN.out]; exact hnc)
      rw [cells_drop] at LD
      have HG := Lib.hid (fall_any (if cap = T then A else A.map (·.add T)) (n - T) (cap - T) (bs.drop T) wr (by rw [List.length_drop, HN.out]) (by omega) (by omega) (by unfold maxLen at hcm ⊢; omega) LD)
      rw [HBH.out] at HG
      rw [HFL.out]
      have HBW := Lib.hid hBW
      have hneq := fun W => neq_same W (str bs)
      clear hBW LD
      generalize str (bs.take T) = S2 at *
      generalize str bs = S3 at *
      generalize (if cap = T then A else A.map (·.add T)) = AP at *
      go_wp2_with fail
      refine HG.out.mono ?_
      rintro e w9 ⟨v9, rfl, L9, hL9, hR9, c9⟩
      obtain ⟨A9, cp9, rfl, -, -, -⟩ := hR9.read
      obtain rfl : L9 = [] := by simpa using hL9
      have hend := HBW.out.trans (c9.mono HBW.out.size)
      have HEND := Lib.hid hend
      clear hL9 hR9 c9 hend HG
      rw [show (↑([] : List PV).length : Nat) = 0 from rfl, show Fra.tot [] = 0 from rfl]
      go_wp2
      go_ret
      exact ⟨rfl, HEND.out⟩

theorem walk (w : World) (A : Option Addr) (cap : Nat) (bs : List UInt8) (hl : bs.length ≤ cap) (hm : cap ≤ maxLen) (hA : Lies w A (cells bs)) :
    Calls Try.prog 6 #[.slice A bs.length cap] w fun e w' => e = .returned (.bool true) ∧ Below w.heap.size w w' :=
  walkN w A bs.length cap bs rfl hl hm hA


set_option maxRecDepth 100000 in
theorem lifted (os : Os) (started : os.Started) (H : Type) (enc : TypeId × Value → H) :
    ReturnsInHanded {} Try.checked os 6 .any (Rows.frameMoreSpec.pre6 enc Try.prog Try.f6 Rows.frameMoreRow.domain false) (Rows.frameMoreSpec.post enc Try.prog Try.f6 false true false false) := by
  refine returnsInHanded_of_change (C := Try.checked) own started (by kernel_rfl) Try.func6
    (ChangeSpec.witness6 (enc := enc) (C := Try.checked) false ⟨#[], #[.slice none 0 0], []⟩ 8 (by kernel_rfl) (by kernel_rfl) (by kernel_rfl) (by kernel_rfl)) ?_
  intro W base args ds gs before hval0 hW hcnd _
  have hval : ∀ (j : Nat) t v, Try.f6.params[j]? = some t → args[j]? = some v → Value.okWide Try.prog W .any base t v := hval0
  have hfin := fun W' => law_post (enc := enc) (P := Try.prog) (f := Try.f6) (s := Rows.frameMoreSpec) (tb := 4) (W := W) (W' := W') (args := args) (ds := ds) (gs := gs) (before := before) laidOut rfl (by kernel_rfl) Try.underlying4 (by kernel_rfl) (fun xs h => by rw [Try.params6] at h; match xs, h with | [_], _ => rfl) hW
  have hlt : ∀ x ∈ before, x.block < W.heap.size := fun x hx => hW.lt x hx
  obtain ⟨p, q, hA0, hV, rfl, hfz, hnd⟩ := hW
  have hA : DataW.TrodAll enc Try.prog W 0 (fun _ => true) true Try.f6.params.toList args.toList ds p := hA0
  rw [Try.params6] at hA hval
  obtain ⟨v0, vs0, d0, ds0, p0, q0, hargs, rfl, rfl, h0, r0⟩ := trodAll_cons hA
  obtain ⟨rfl, rfl, rfl⟩ := trodAll_nil r0
  obtain rfl : args = #[v0] := by cases args; simp_all
  obtain ⟨A0, cap0, b0, rfl, hl0, hm0, hB0⟩ := open_bytes (hval 0 22 v0 rfl rfl) h0 (fun x hx => hlt x (by simp [hx]))
  refine (walk W A0 cap0 b0 hl0 hm0 hB0).mono fun e W' ⟨he, hg⟩ => ?_
  subst he
  exact ⟨_, rfl, hfin W' hg⟩

theorem proved : Rows.FrameMoreSaid :=
  OpenClaim.holds_of_wide 6 Try.f6 rfl rfl rfl rfl rfl rfl rfl ⟨rfl, rfl, rfl, rfl, rfl⟩ rfl rfl rfl rfl rfl (by kernel_rfl) Try.func6 (by kernel_rfl)
    (of_decide_eq_true (by kernel_rfl)) (by unfold Func.isWrapper; first | (rw [if_pos (by decide +kernel)]; kernel_rfl) | (rw [if_neg (by decide +kernel)]; exact ⟨rfl, rfl⟩))
    (fun os started H enc _ => lifted os started H enc)
#print axioms proved
end Go.Proofs.Ytchfiekepjndeaa.frameMore
