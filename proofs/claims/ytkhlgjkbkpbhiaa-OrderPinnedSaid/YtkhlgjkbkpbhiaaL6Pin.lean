/-
  P6.1, OrderPinned: for all items, every place, and all numbers in and budget, the law returns true: a pinned item never goes; to pin one more has no fewer others go. No condition.
-/
import Derived.Test.YtkhlgjkbkpbhiaaNum6
namespace Go.Proofs.Ytkhlgjkbkpbhiaa.orderPinned
open Go.ChangeShapes Go.WideShapes Go.ChangeAt Go.RowKit
set_option maxRecDepth 100000

theorem vic_mem {b : Int} : ∀ (l : List Plain.It) (p : Int) (x : Plain.It), x ∈ Plain.vic b p l → x ∈ l
  | [], _, _, h => by simp [Plain.vic] at h
  | y :: l, p, x, h => by
    rw [Plain.vic] at h
    split at h
    · cases h
    · rcases List.mem_cons.1 h with rfl | h
      · exact List.mem_cons_self ..
      · exact List.mem_cons_of_mem _ (vic_mem l _ x h)
theorem vic_pin {b : Int} (P : Plain.It → Bool) : ∀ (s : List Plain.It) (p q : Int), p ≤ q → (∀ x ∈ s, 0 ≤ x.cost) → ((Plain.vic b p s).filter P).length ≤ (Plain.vic b q (s.filter P)).length
  | [], _, _, _, _ => by simp [Plain.vic]
  | x :: s, p, q, h, hc => by
    have hx := hc x (List.mem_cons_self ..)
    have hs : ∀ y ∈ s, 0 ≤ y.cost := fun y hy => hc y (List.mem_cons_of_mem _ hy)
    rw [Plain.vic]
    by_cases h1 : p ≤ b
    · rw [if_pos h1]; simp
    · rw [if_neg h1, List.filter_cons, List.filter_cons]
      cases hp : P x with
      | true =>
        rw [if_pos rfl, if_pos rfl, Plain.vic, if_neg (by omega)]
        have := vic_pin (b := b) P s (p - x.cost) (q - x.cost) (by omega) hs
        simp only [List.length_cons]; omega
      | false =>
        rw [if_neg (by simp), if_neg (by simp)]
        exact vic_pin (b := b) P s (p - x.cost) q (by omega) hs
theorem numbF_ids : ∀ (j : Nat) (l : List Plain.It) (x : Plain.It), x ∈ Plain.numbF j l → (j : Int) ≤ x.id ∧ x.id < (j + l.length : Nat)
  | _, [], _, h => by simp [Plain.numbF] at h
  | j, y :: l, x, h => by
    rw [Plain.numbF] at h
    rcases List.mem_cons.1 h with rfl | h
    · simp; omega
    · have := numbF_ids (j + 1) l x h
      simp only [List.length_cons]; omega

/-- with the k-th one pinned -/
theorem split (l : List Plain.It) (k : Nat) (hk : k < l.length) : ∃ a y b, Plain.numb l = a ++ y :: b ∧ a.length = k ∧ y.id = ((k + 1 : Nat) : Int) ∧ (∀ x ∈ a, x.id ≠ ((k + 1 : Nat) : Int)) ∧ (∀ x ∈ b, x.id ≠ ((k + 1 : Nat) : Int)) := by
  refine ⟨Plain.numbF 1 (l.take k), { l[k] with id := ((k + 1 : Nat) : Int) }, Plain.numbF (k + 2) (l.drop (k + 1)), ?_, ?_, rfl, fun x hx => ?_, fun x hx => ?_⟩
  · have e : l = l.take k ++ l[k] :: l.drop (k + 1) := by rw [← List.drop_eq_getElem_cons hk, List.take_append_drop]
    unfold Plain.numb
    conv => lhs; rw [e]
    rw [Plain.numbF_append, Plain.numbF, List.length_take, Nat.min_eq_left (by omega), Nat.add_comm 1 k]
  · rw [Plain.numbF_length, List.length_take]; omega
  · have := numbF_ids 1 _ x hx
    rw [List.length_take] at this
    omega
  · have := numbF_ids (k + 2) _ x hx
    omega
theorem pinned {a b : List Plain.It} {y : Plain.It} {K : Int} (hy : y.id = K) (ha : ∀ x ∈ a, x.id ≠ K) (hb : ∀ x ∈ b, x.id ≠ K) (x bu : Int) :
    (∀ i ∈ (Plain.gone (a ++ { y with pin := true } :: b) x bu).map (·.id), i ≠ K) ∧
    (Plain.fits (a ++ { y with pin := true } :: b) x bu = true → (((Plain.gone (a ++ y :: b) x bu).map (·.id)).filter fun i => decide (i ≠ K)).length ≤ ((Plain.gone (a ++ { y with pin := true } :: b) x bu).map (·.id)).length) := by
  have hm : Plain.mayGo (a ++ { y with pin := true } :: b) = (Plain.mayGo (a ++ y :: b)).filter fun i => decide (i.id ≠ K) := by
    unfold Plain.mayGo
    rw [List.filter_append, List.filter_append, List.filter_append, List.filter_cons, List.filter_cons]
    have e1 : ∀ c : List Plain.It, (∀ x ∈ c, x.id ≠ K) → (c.filter fun x => x.right && !x.pin).filter (fun i => decide (i.id ≠ K)) = c.filter fun x => x.right && !x.pin := fun c hc => by
      rw [List.filter_eq_self]
      intro x hx
      exact decide_eq_true (hc x (List.mem_filter.1 hx).1)
    rw [if_neg (by simp), e1 a ha]
    congr 1
    split
    · rw [List.filter_cons, if_neg (by simp [hy]), e1 b hb]
    · rw [e1 b hb]
  have hi : Plain.inOrder (a ++ { y with pin := true } :: b) = (Plain.inOrder (a ++ y :: b)).filter fun i => decide (i.id ≠ K) := by
    unfold Plain.inOrder
    rw [hm, Plain.srt_filter Plain.swoI]
  have hc : Plain.costs (a ++ { y with pin := true } :: b) = Plain.costs (a ++ y :: b) := by
    unfold Plain.costs
    rw [List.map_append, List.map_append, List.map_cons, List.map_cons]
    rfl
  constructor
  · intro i h
    obtain ⟨z, hz, rfl⟩ := List.mem_map.1 h
    unfold Plain.gone at hz
    split at hz
    · have := vic_mem _ _ _ hz
      rw [hi] at this
      exact of_decide_eq_true (List.mem_filter.1 this).2
    · cases hz
  · intro hf
    rw [List.filter_map, List.length_map, List.length_map]
    unfold Plain.gone
    rw [if_pos hf, hc, hi]
    split
    · exact vic_pin (fun i => decide (i.id ≠ K)) _ _ _ (Int.le_refl _) (fun z hz => ((Plain.It.right_iff z).1 (Plain.inOrder_right hz).2.1).2.2.2.1)
    · simp
theorem count_take (ga : List Int) (K : Int) (k : Nat) (hk : k < ga.length) : ((ga.take (k + 1)).filter fun i => decide (i ≠ K)).length = ((ga.take k).filter fun i => decide (i ≠ K)).length + if ga[k] = K then 0 else 1 := by
  rw [List.take_succ_eq_append_getElem hk, List.filter_append, List.length_append, List.filter_cons, List.filter_nil]
  by_cases h : ga[k] = K <;> simp [h]

set_option maxHeartbeats 8000000 in
theorem walk (w : World) (A : Option Addr) (cap : Nat) (l : List Plain.It) (_hl : l.length ≤ cap) (_hm : cap ≤ maxLen) (hA : Lies w A (flatI l)) (t : Int) (ht : 0 ≤ t ∧ t ≤ 255) (x : Int) (hx : 0 ≤ x ∧ x ≤ 65535) (b : Int) (hb : 0 ≤ b ∧ b ≤ 65535) :
    Calls Try.prog 7 #[.slice A l.length cap, .int .u8 t, .int .u16 x, .int .u16 b] w fun e w' => e = .returned (.bool true) ∧ Below w.heap.size w w' := by
  have HA := Lib.hid hA
  obtain ⟨X, rfl⟩ : ∃ X : Nat, t = (X : Int) := ⟨t.toNat, by omega⟩
  obtain ⟨n, hn⟩ : ∃ n, l.length = n := ⟨_, rfl⟩
  rw [hn]
  have HN := Lib.hid hn
  clear hA hn
  go_enter Try.func7, Try.ntmps7
  go_wp2_with fail
  refine (head_any w).mono ?_
  rintro e w1 ⟨rfl, c1⟩
  by_cases hn0 : n = 0
  · subst hn0
    go_wp2
    go_ret
    exact ⟨rfl, c1⟩
  have hn0z : ¬ (n : Int) = 0 := by omega
  have hn0b : ((n : Int) == 0) = false := beq_eq_false_iff_ne.2 hn0z
  by_cases h200 : 200 < n
  · have hz : (200 : Int) < (n : Int) := by omega
    go_wp2
    go_ret
    exact ⟨rfl, c1⟩
  have hz : ¬ (200 : Int) < (n : Int) := by omega
  obtain ⟨q, hq⟩ : ∃ q, X % n = q := ⟨_, rfl⟩
  have hqn : q < n := by rw [← hq]; exact Nat.mod_lt _ (by omega)
  have ek : (X : Int) % (n : Int) = (q : Int) := by rw [← hq]; simp
  have ek2 : (X : Int).tmod (n : Int) = (q : Int) := by rw [← hq]; exact Int.ofNat_tmod X n |>.symm
  clear hq
  go_wp2_with fail
  refine (numbered_any A n cap l w1 HN.out (by omega) (HA.out.below c1)).mono ?_
  rintro e w2 ⟨v2, rfl, ho2, d2⟩
  have c2 := c1.trans (d2.mono c1.size)
  obtain ⟨p, y, r, hsp, hpl, hy, hp, hr⟩ := split l q (by rw [HN.out]; exact hqn)
  have HPIN := Lib.hid (pinned hy hp hr x b)
  have hnl : (p ++ y :: r).length = n := by rw [← hsp, Plain.numb_length, HN.out]
  rw [hsp] at ho2
  rcases ho2.2 with ⟨rfl, h0⟩ | ⟨g, cap2, cur, rfl, hbg, hgh, hl2, hm2, hcs, htk⟩
  · omega
  clear hgh hcs htk
  have hL2 : Lies w2 (some ⟨g, 0, none⟩) (flatI (p ++ y :: r)) := .inr ⟨_, rfl, (ho2.lt g rfl).2, ho2.cells (g := g) rfl⟩
  have HV1 := Lib.hid (victims_new (some ⟨g, 0, none⟩) n cap2 (p ++ y :: r) x b w2 hnl (by omega) hL2)
  have hnl2 : (p ++ { y with pin := true } :: r).length = n := by simpa using hnl
  have HV2 := Lib.hid (fun (u : World) (h : Lies u (some ⟨g, 0, none⟩) (flatI (p ++ { y with pin := true } :: r))) => victims_any (some ⟨g, 0, none⟩) n cap2 (p ++ { y with pin := true } :: r) x b u hnl2 (by omega) h)
  have hgl : g < w2.heap.size := (ho2.lt g rfl).2
  have hat : ∀ j (u : Value), (itCells y)[j]? = some u → j < 5 → (flatI (p ++ y :: r))[q * 5 + j]? = some u := fun j u hu hj => by
    rw [flatI_at (p ++ y :: r) q j y (by rw [List.getElem?_append_right (by omega), hpl, Nat.sub_self]; rfl) hj]; exact hu
  have hst := flatI_set4 p y r true
  rw [hpl] at hst
  have HO2 := Lib.hid ho2
  have HAT := Lib.hid hat
  have HST := Lib.hid hst
  have HY := Lib.hid hy
  clear hst hat hp hr hsp hL2 d2 ho2 hnl hnl2
  generalize Plain.fits (p ++ y :: r) x b = f1 at *
  generalize Plain.fits (p ++ { y with pin := true } :: r) x b = f2 at *
  generalize (Plain.gone (p ++ y :: r) x b).map (·.id) = ga at *
  generalize (Plain.gone (p ++ { y with pin := true } :: r) x b).map (·.id) = gb at *
  go_wp2_with fail
  refine HV1.out.mono ?_
  rintro e w3 ⟨va, rfl, A3, cap3, rfl, hl3, hm3, hL3, d3, hfr3⟩
  have c3 := c2.trans (d3.mono c2.size)
  have HO3 := Lib.hid (row_keep HO2.out d3)
  have HL3 := Lib.hid hL3
  clear hL3 HV1
  obtain ⟨na, hna⟩ : ∃ na, ga.length = na := ⟨_, rfl⟩
  rw [hna] at hl3 ⊢
  have HNA := Lib.hid hna
  clear hna
  have hc4 : w3.cell? ⟨g, q * 5 + 4, none⟩ = some (.bool y.pin) := by
    have := HO3.out.cells (g := g) rfl (q * 5 + 4) (.bool y.pin) (HAT.out 4 _ rfl (by omega))
    rwa [addr0] at this
  have hf4 : w3.frozen? ⟨g, q * 5 + 4, none⟩ = false := by
    rcases HO3.out.2 with ⟨h, _⟩ | ⟨g', cap', cur', h, _, hgh', _⟩
    · cases h
    · have eg : g = g' := by injection h with h1; injection h1 with h1; injection h1
      subst eg
      simp [World.frozen?, hgh']
  have ho4 := HO3.out.stored (q * 5 + 4) (.bool true)
  rw [HST.out] at ho4
  have HO4 := Lib.hid ho4.1
  have hL4 : Lies (w3.setCell ⟨g, q * 5 + 4, none⟩ (.bool true)) A3 (nums ga) := by
    rcases HL3.out with h | ⟨ad, e, h1, h2⟩
    · exact .inl h
    · have hne : ad.block ≠ g := by have := hfr3 ad e; omega
      refine .inr ⟨ad, e, by simpa using h1, fun j u hu => ?_⟩
      have := ho4.2.cell (h2 j u hu) (by rw [addr_block]; simpa using hne)
      exact this
  have HL4 := Lib.hid hL4
  have hb4 : Below w.heap.size w (w3.setCell ⟨g, q * 5 + 4, none⟩ (.bool true)) := c3.trans ⟨rfl, rfl, rfl, by simp, fun i hi => Below.heap_setCell w3 ⟨g, q * 5 + 4, none⟩ _ i (by have := c1.size; simp; omega)⟩
  have HB4 := Lib.hid hb4
  clear ho4 hL4 hb4 hfr3 HL3
  go_wp2_with fail
  refine (HV2.out _ (.inr ⟨_, rfl, (HO4.out.lt g rfl).2, HO4.out.cells (g := g) rfl⟩)).mono ?_
  rintro e w5 ⟨vb, rfl, A5, cap5, rfl, hl5, hm5, hL5, d5⟩
  have c5 := HB4.out.trans (d5.mono HB4.out.size)
  have HL5 := Lib.hid hL5
  have HL6 := Lib.hid (HL4.out.below d5)
  have HO6 := Lib.hid (row_keep HO4.out d5)
  clear hL5 HV2 d5 HL4 HO3 HO2 HB4 hc4 hf4
  obtain ⟨nb, hnb⟩ : ∃ nb, gb.length = nb := ⟨_, rfl⟩
  rw [hnb] at hl5 ⊢
  have HNB := Lib.hid hnb
  clear hnb
  unfold maxLen at hm3 hm5 hm2
  have hid : ∀ u, Below w5.heap.size w5 u → u.cell? ⟨g, q * 5, none⟩ = some (.int .i64 ((q + 1 : Nat) : Int)) := fun u hu => by
    have h1 := HO6.out.cells (g := g) rfl (q * 5) (.int .i64 ((q + 1 : Nat) : Int)) (by
      have h2 := flatI_at (p ++ { y with pin := true } :: r) q 0 { y with pin := true } (by rw [List.getElem?_append_right (by omega), hpl, Nat.sub_self]; rfl) (by omega)
      simpa [itCells, HY.out] using h2)
    rw [addr0] at h1
    exact (hu.cell (p := ⟨g, q * 5, none⟩) (HO6.out.lt g rfl).2).trans h1
  have HID := Lib.hid hid
  obtain ⟨K, hK⟩ : ∃ K : Int, ((q + 1 : Nat) : Int) = K := ⟨_, rfl⟩
  rw [hK] at HID HPIN
  clear hid hK HO4 HO6 HAT HST HY
  go_wp2
  go_loopg [16] nb (fun kx s16 wr => ∃ k : Nat, s16 = .int .i64 k ∧ k ≤ nb ∧ nb - k ≤ kx ∧ Below w5.heap.size w5 wr)
  case atStart => exact ⟨0, rfl, Nat.zero_le _, by omega, Below.refl _ _⟩
  case round =>
    obtain ⟨k, rfl, hk, hkx, hbr⟩ := hrel
    by_cases hlt : k < nb
    · have hltz : (k : Int) < (nb : Int) := by omega
      have hkl : k < gb.length := by rw [HNB.out]; exact hlt
      obtain ⟨ad, rfl, hadb, hc⟩ := at_num HL5.out k hkl
      have x0 := hc wr hbr
      have x1 := HID.out wr hbr
      have hne := HPIN.out.1 gb[k] (List.getElem_mem hkl)
      generalize gb[k] = z at *
      have q1 : (z == K) = false := beq_eq_false_iff_ne.2 hne
      clear hc
      go_wp2
      go_quiet (fail)
      go_wp2
      go_roundg (nb - (k + 1))
      case measure => omega
      case rel => exact ⟨k + 1, by go_num, by omega, Nat.le_refl _, below_many hbr _⟩
    · obtain rfl : k = nb := by omega
      have hltz : ¬ (k : Int) < (k : Int) := by omega
      go_wp2
      go_loopg [17, 18] na (fun kx s17 s18 wr => ∃ j c : Nat, s17 = .int .i64 c ∧ s18 = .int .i64 j ∧ j ≤ na ∧ na - j ≤ kx ∧ c ≤ j ∧ Aside (((ga.take j).filter fun i => decide (i ≠ K)).length = c) ∧ Below w5.heap.size w5 wr)
      case atStart => exact ⟨0, 0, rfl, rfl, Nat.zero_le _, by omega, Nat.le_refl _, rfl, hbr⟩
      case round =>
        clear hbr
        obtain ⟨j, c, rfl, rfl, hj, hkx2, hcj, HC, hbr⟩ := hrel
        by_cases hlt2 : j < na
        · have hltz2 : (j : Int) < (na : Int) := by omega
          have hjl : j < ga.length := by rw [HNA.out]; exact hlt2
          obtain ⟨ad, rfl, hadb, hc⟩ := at_num HL6.out j hjl
          have x0 := hc wr hbr
          have x1 := HID.out wr hbr
          have HT := Lib.hid (count_take ga K j hjl)
          rw [HC.out] at HT
          generalize ga[j] = z at *
          clear hc HC
          by_cases hz2 : z = K
          · subst hz2
            go_wp2
            go_quiet (fail)
            go_wp2
            go_roundg (na - (j + 1))
            case measure => omega
            case rel => exact ⟨j + 1, c, rfl, by go_num, by omega, Nat.le_refl _, by omega, by show _ = _; rw [HT.out]; simp, below_many hbr _⟩
          · have q1 : (z == K) = false := beq_eq_false_iff_ne.2 hz2
            have q2 : (z != K) = true := by simp [bne, q1]
            go_wp2
            go_quiet (fail)
            go_wp2
            go_roundg (na - (j + 1))
            case measure => omega
            case rel => exact ⟨j + 1, c + 1, by go_num, by go_num, by omega, Nat.le_refl _, by omega, by show _ = _; rw [HT.out, if_neg hz2], below_many hbr _⟩
        · obtain rfl : j = na := by omega
          have hltz2 : ¬ (j : Int) < (j : Int) := by omega
          have hle : f2 = true → c ≤ k := fun h => by
            have h1 := HPIN.out.2 h
            have h2 := HC.out
            rw [List.take_of_length_le (by rw [HNA.out]; omega)] at h2
            rw [h2, HNB.out] at h1
            exact h1
          have cE := c5.trans (hbr.mono c5.size)
          rcases f2 with _ | _
          · go_wp2
            go_ret
            exact ⟨rfl, cE⟩
          · have hlez : (c : Int) ≤ (k : Int) := by have := hle rfl; omega
            go_wp2
            go_ret
            exact ⟨rfl, cE⟩


set_option maxRecDepth 100000 in
theorem lifted (os : Os) (started : os.Started) (H : Type) (enc : TypeId × Value → H) :
    ReturnsInHanded {} Try.checked os 7 .any (Rows.orderPinnedSpec.pre6 enc Try.prog Try.f7 Rows.orderPinnedRow.domain false) (Rows.orderPinnedSpec.post enc Try.prog Try.f7 false true false false) := by
  refine returnsInHanded_of_change (C := Try.checked) own started (by kernel_rfl) Try.func7
    (ChangeSpec.witness6 (enc := enc) (C := Try.checked) false ⟨#[], #[.slice none 0 0, .int .u8 0, .int .u16 0, .int .u16 0], []⟩ 8 (by kernel_rfl) (by kernel_rfl) (by kernel_rfl) (by kernel_rfl)) ?_
  intro W base args ds gs before hval0 hW hcnd _
  have hval : ∀ (j : Nat) t v, Try.f7.params[j]? = some t → args[j]? = some v → Value.okWide Try.prog W .any base t v := hval0
  have hfin := fun W' => law_post (enc := enc) (P := Try.prog) (f := Try.f7) (s := Rows.orderPinnedSpec) (tb := 4) (W := W) (W' := W') (args := args) (ds := ds) (gs := gs) (before := before) laidOut rfl (by kernel_rfl) Try.underlying4 (by kernel_rfl) (fun xs h => by rw [Try.params7] at h; match xs, h with | [_, _, _, _], _ => rfl) hW
  have hlt : ∀ x ∈ before, x.block < W.heap.size := fun x hx => hW.lt x hx
  obtain ⟨p, q, hA0, hV, rfl, hfz, hnd⟩ := hW
  have hA : DataW.TrodAll enc Try.prog W 0 (fun _ => true) true Try.f7.params.toList args.toList ds p := hA0
  rw [Try.params7] at hA hval
  obtain ⟨v0, vs0, d0, ds0, p0, q0, hargs, rfl, rfl, h0, r0⟩ := trodAll_cons hA
  obtain ⟨v1, vs1, d1, ds1, p1, q1, rfl, rfl, rfl, h1, r1⟩ := trodAll_cons r0
  obtain ⟨v2, vs2, d2, ds2, p2, q2, rfl, rfl, rfl, h2, r2⟩ := trodAll_cons r1
  obtain ⟨v3, vs3, d3, ds3, p3, q3, rfl, rfl, rfl, h3, r3⟩ := trodAll_cons r2
  obtain ⟨rfl, rfl, rfl⟩ := trodAll_nil r3
  obtain rfl : args = #[v0, v1, v2, v3] := by cases args; simp_all
  obtain ⟨A0, cap0, l0, rfl, hl0, hm0, hB0⟩ := open_items (hval 0 22 v0 rfl rfl) h0 (fun x hx => hlt x (by simp [hx]))
  obtain ⟨a1, rfl, rfl, rfl, w1⟩ := open_int Try.underlying5 (hval 1 5 v1 rfl rfl) h1
  obtain ⟨a2, rfl, rfl, rfl, w2⟩ := open_int Try.underlying38 (hval 2 38 v2 rfl rfl) h2
  obtain ⟨a3, rfl, rfl, rfl, w3⟩ := open_int Try.underlying38 (hval 3 38 v3 rfl rfl) h3
  refine (walk W A0 cap0 l0 hl0 hm0 hB0 a1 (bounds_u8 w1) a2 (bounds_u16 w2) a3 (bounds_u16 w3)).mono fun e W' ⟨he, hg⟩ => ?_
  subst he
  exact ⟨_, rfl, hfin W' hg⟩

theorem proved : Rows.OrderPinnedSaid :=
  OpenClaim.holds_of_wide 7 Try.f7 rfl rfl rfl rfl rfl rfl rfl ⟨rfl, rfl, rfl, rfl, rfl⟩ rfl rfl rfl rfl rfl (by kernel_rfl) Try.func7 (by kernel_rfl)
    (of_decide_eq_true (by kernel_rfl)) (by unfold Func.isWrapper; first | (rw [if_pos (by decide +kernel)]; kernel_rfl) | (rw [if_neg (by decide +kernel)]; exact ⟨rfl, rfl⟩))
    (fun os started H enc _ => lifted os started H enc)
#print axioms proved
end Go.Proofs.Ytkhlgjkbkpbhiaa.orderPinned
