/-
  P14.3, EntryParts: for all calls the law returns true: what is told of all extents that entries are in, together, is all of them, each once. No condition.
-/
import Derived.Test.YtepfbpljkhchbaaLwE
import Derived.BigRegion
namespace Go.Proofs.Ytepfbpljkhchbaa.entryParts
open Go.ChangeShapes Go.WideShapes Go.ChangeAt Go.RowKit Go.Maps En
set_option maxRecDepth 100000

def cnt (m : List E) (L : List Int) : Nat := (L.map fun s => (inn m s).length).sum
theorem inn_len (m : List E) (s : Int) : (inn m s).length = (m.filter fun e => e.seq == s).length := by
  unfold inn
  rw [List.length_map, (row_perm m s).length_eq]
theorem cnt_is (m : List E) : ∀ {L : List Int}, L.Nodup → cnt m L = (m.filter fun e => decide (e.seq ∈ L)).length
  | [], _ => by
    have : m.filter (fun e => decide (e.seq ∈ ([] : List Int))) = [] := by rw [List.filter_eq_nil_iff]; simp
    rw [this]; rfl
  | s :: L, h => by
    rw [List.nodup_cons] at h
    have ih := cnt_is m h.2
    unfold cnt at *
    rw [List.map_cons, List.sum_cons, ih, inn_len]
    have : ∀ m : List E, (m.filter fun e => e.seq == s).length + (m.filter fun e => decide (e.seq ∈ L)).length = (m.filter fun e => decide (e.seq ∈ s :: L)).length := fun m => by
      induction m with
      | nil => rfl
      | cons e r ihr =>
        rw [List.filter_cons, List.filter_cons, List.filter_cons]
        by_cases h1 : e.seq = s
        · have h2 : e.seq ∉ L := fun hm => h.1 (h1 ▸ hm)
          have h4 : (e.seq == s) = true := by simpa using h1
          have h5 : decide (e.seq ∈ L) = false := by rw [decide_eq_false_iff_not]; exact h2
          have h6 : decide (e.seq ∈ s :: L) = true := by simp [h1]
          rw [h4, h5, h6]
          simp only [if_true, Bool.false_eq_true, if_false, List.length_cons]
          omega
        · have hb : (e.seq == s) = false := beq_eq_false_iff_ne.2 h1
          have he : decide (e.seq ∈ s :: L) = decide (e.seq ∈ L) := by simp [h1]
          rw [hb, he]
          simp only [Bool.false_eq_true, if_false]
          split
          · simp only [List.length_cons]; omega
          · exact ihr
    exact this m
theorem cnt_all {m : List E} {L : List Int} (h : L.Nodup) (ha : ∀ e ∈ m, e.seq ∈ L) : cnt m L = m.length := by
  rw [cnt_is m h, List.filter_eq_self.2 (by simpa using ha)]
theorem cnt_le {m : List E} {L : List Int} (h : L.Nodup) : cnt m L ≤ m.length := by
  rw [cnt_is m h]; exact List.length_filter_le ..
theorem cnt_take {m : List E} {L : List Int} {k : Nat} (hk : k < L.length) : cnt m (L.take (k + 1)) = cnt m (L.take k) + (inn m L[k]).length := by
  unfold cnt
  rw [List.take_succ_eq_append_getElem hk, List.map_append, List.sum_append]
  simp

set_option maxHeartbeats 16000000 in
theorem walkN (w : World) (A : Option Addr) (n cap : Nat) (l : List Opq) (hn : l.length = n) (hl : n ≤ cap) (hm : cap ≤ maxLen) (hA : Lies w A (flatO l)) (hQ : ∀ o ∈ l, OpIn w o) :
    Calls Try.prog 7 #[.slice A n cap] w fun e w' => e = .returned (.bool true) ∧ Below w.heap.size w w' := by
  have HA := Lib.hid hA
  have HN := Lib.hid hn
  have HQ := Lib.hid hQ
  have HNM := Lib.hid (show n ≤ maxLen from Nat.le_trans hl hm)
  obtain ⟨i0, hi, hz0, hz1, hz2⟩ := info_parts infoL
  clear hA hn hQ hl hm
  go_enter Try.func7, Try.ntmps7
  go_wp2_with fail
  refine (head14_any w).mono ?_
  rintro e w1 ⟨rfl, d1⟩
  have HB1 := Lib.hid d1
  clear d1
  go_wp2_with fail
  refine (new14_any [] w1 (by simp)).mono ?_
  rintro e w2 ⟨x, b, rfl, hI2, hx, hbx, d2⟩
  have HI2 := Lib.hid hI2
  have HB2 := Lib.hid (HB1.out.trans (d2.mono HB1.out.size))
  have HBB := Lib.hid (Nat.le_trans HB1.out.size hbx)
  clear hI2 hx hbx d2
  go_wp2_with fail
  refine (great14_any A n cap l w2 HN.out HNM.out (HA.out.below HB2.out) (fun o ho => (HQ.out o ho).t.below HB2.out)).mono ?_
  rintro e w3 ⟨r, rfl, hr, rfl⟩
  rcases r with _ | _
  rotate_left
  · have HB := HB2.out
    go_wp2
    go_ret
    exact ⟨rfl, HB⟩
  have HR := Lib.hid (hr rfl)
  clear hr
  go_wp2
  go_loopw [5, 6] (fun s5 s6 wr => ∃ (k : Nat) (p : Int → Nat) (L : List Int), s6 = .int .i64 (k : Int) ∧ k ≤ n ∧ IsIdx s5.ownBlock.toList wr x b p (puts14 (l.take k)) ∧ wr.ownsRow w.heap.size 2 1 s5 L.length (nums L) ∧ L.length ≤ k ∧ L.Nodup ∧ (∀ e ∈ puts14 (l.take k), e.seq ∈ L) ∧ Below w.heap.size w wr) (fun _ i _ => n - (intOf i).toNat)
  case atStart => exact ⟨0, _, [], rfl, Nat.zero_le _, HI2.out, World.ownsRow_nil _ _ _ _, Nat.le_refl _, List.nodup_nil, by simp [puts14], HB2.out⟩
  case round =>
    obtain ⟨k, p, L, rfl, hk, hI, hrow, hLk, hnd, hin, hbr⟩ := hrel
    have HI := Lib.hid hI
    have HROW := Lib.hid hrow
    have HND := Lib.hid hnd
    have HIN := Lib.hid hin
    have HBR := Lib.hid hbr
    have HK2 := Lib.hid HR.out.1
    have hk200 := HR.out.1
    clear hI hrow hnd hin hbr
    obtain ⟨Ls, caps, rfl, hls1, hls2, hls3⟩ := row_lies HROW.out
    have HLS := Lib.hid hls3
    obtain ⟨m, hmL⟩ : ∃ m, L.length = m := ⟨_, rfl⟩
    have HML := Lib.hid hmL
    rw [hmL] at hLk hls1 HROW HI
    simp only [hmL]
    clear hls3 hmL
    unfold maxLen at hls2
    by_cases hlt : k < n
    · have hkl : k < l.length := by rw [HN.out]; exact hlt
      obtain ⟨ad, rfl, hadb, hcl⟩ := at_op HA.out k hkl
      have HIX := Lib.hid (fun (W : World) => show (Instr.indexAt 22 (.slice (some ad) n cap) (.int .i64 (k : Int))).run Try.prog W = .ok (.pointer (some (ad.add (k * 20)))) W by go_simp)
      have hix := HIX.out
      obtain ⟨c0, c1, c2, c3, c4, c5, c6, c7, c8, c9, c10, c11, c12⟩ := op_ent (hcl wr HBR.out)
      have hO := HQ.out l[k] (List.getElem_mem hkl)
      have HT := Lib.hid (puts14_take l k hkl)
      have HO := Lib.hid hO
      have H9 := Lib.hid (HR.out.2 l[k] (List.getElem_mem hkl))
      clear hcl hO
      obtain ⟨o, ho⟩ : ∃ o, l[k] = o := ⟨_, rfl⟩
      rw [ho] at c0 c1 c2 c3 c4 c5 c6 c7 c8 c9 c10 c11 c12 HT HO H9
      clear ho
      generalize ad.add (k * 20) = q at *
      obtain ⟨sn, hsn⟩ : ∃ sn, o.t.e.sv.length = sn := ⟨_, rfl⟩
      rw [hsn] at c9 H9
      have HSN := Lib.hid hsn
      clear hsn
      have hEB := BoxE.new wr o.t.e (.slice o.t.A sn o.t.cap)
      have hbE : Below wr.heap.size wr (wr.alloc (.cells (enA o.t.e (.slice o.t.A sn o.t.cap)) 35)) := (Below.refl _ _).alloc (Nat.le_refl _) _
      have hp := put14_any (HI.out.below hbE) (fun r hr => Nat.lt_of_lt_of_le (own_block_lt HROW.out r hr).1 hbE.size) (by have := HK2.out; have := puts14_len (l.take k); simp at this; omega) o.t.e HO.out.t.id o.t.A sn o.t.cap HSN.out ((HO.out.t.below (HBR.out.trans (hbE.mono HBR.out.size))).svs (by rw [HSN.out]; exact H9.out))
      unfold enA at hp
      have HP := Lib.hid hp
      obtain ⟨E0, hE0⟩ : ∃ E0, wr.heap.size = E0 := ⟨_, rfl⟩
      have HE0 := Lib.hid hE0
      rw [hE0] at hEB
      have HEB := Lib.hid hEB
      have HROW1 := Lib.hid (row_keep HROW.out hbE)
      have HBR1 := Lib.hid (HBR.out.trans (hbE.mono HBR.out.size))
      unfold enA at HEB HROW1 HBR1
      clear hEB hbE hp
      go_wp2_with fail
      clear c0 c1 c2 c3 c4 c5 c6 c7 c8 c9 c10 c11 c12
      refine HP.out.mono ?_
      rintro e w5 ⟨rfl, p5, hI5, hk5, -⟩
      rw [← HT.out] at hI5
      have hnb : b ∉ (Value.slice Ls m caps).ownBlock.toList := HI.out.out b (mem_mine.2 (.inr (.inl rfl)))
      have HROW5 := Lib.hid (own_off14 HROW1.out hk5 (by simpa using hnb))
      have HB5 := Lib.hid (Kept.below HBR1.out hk5 (by simp; exact HBB.out))
      have hbE0 : b ≠ E0 := by have := HI.out.blt; have := HE0.out; omega
      have hB5 : BoxE w5 E0 o.t.e (.slice o.t.A sn o.t.cap) := hk5.blk HEB.out (by simpa using hbE0.symm)
      have HIX5 := Lib.hid hI5
      have HBX5 := Lib.hid hB5
      clear hI5 hk5 hnb HP hB5 hbE0 HROW HI HBR HROW1 HBR1 hadb hE0 HEB HE0
      go_wp2
      go_loopw [8, 9] (fun s8 s9 wq => ∃ j : Nat, s9 = .int .i64 (j : Int) ∧ j ≤ m ∧ s8 = .bool (decide (o.t.e.seq ∈ L.take j)) ∧ Below w5.heap.size w5 wq) (fun _ i _ => m - (intOf i).toNat)
      case atStart => exact ⟨0, rfl, Nat.zero_le _, by simp, Below.refl _ _⟩
      case round =>
        obtain ⟨j, rfl, hj, rfl, hbq⟩ := hrel
        have HBQ := Lib.hid hbq
        by_cases hjm : j < m
        · have hjL : j < L.length := by rw [HML.out]; exact hjm
          obtain ⟨ls, hls, hlsb, hcs⟩ := at_num (lies_row HML.out HROW5.out) j hjL
          subst hls
          have c0 := hcs wr hbq
          obtain ⟨-, -, -, -, -, -, -, -, -, -, c10, -⟩ := BoxE.all (BoxE.below HBX5.out hbq)
          have HTK := Lib.hid (show decide (o.t.e.seq ∈ L.take (j + 1)) = (decide (o.t.e.seq ∈ L.take j) || L[j] == o.t.e.seq) by
            rw [List.take_succ_eq_append_getElem hjL, Bool.eq_iff_iff]
            simp only [decide_eq_true_eq, Bool.or_eq_true, List.mem_append, List.mem_singleton, beq_iff_eq]
            exact or_congr Iff.rfl eq_comm)
          clear hcs
          generalize decide (o.t.e.seq ∈ L.take j) = D at *
          generalize L[j] = lj at *
          rcases D with _ | _
          · go_wp2
            go_quiet (fail)
            go_wp2
            go_roundw
            case rel => exact ⟨j + 1, by go_num, by omega, by rw [HTK.out]; simp, below_many hbq _⟩
            case measure => simp [intOf]; omega
          · go_wp2
            go_quiet (fail)
            go_wp2
            go_roundw
            case rel => exact ⟨j + 1, by go_num, by omega, by rw [HTK.out]; simp, below_many hbq _⟩
            case measure => simp [intOf]; omega
        · obtain rfl : j = m := by omega
          have HROW6 := Lib.hid (row_keep HROW5.out hbq)
          have HI6 := Lib.hid (HIX5.out.below hbq)
          have HB6 := Lib.hid (HB5.out.trans (hbq.mono HB5.out.size))
          obtain ⟨-, -, -, -, -, -, -, -, -, -, c10, -⟩ := BoxE.all (BoxE.below HBX5.out hbq)
          have HTK := Lib.hid (show decide (o.t.e.seq ∈ L.take j) = decide (o.t.e.seq ∈ L) by rw [List.take_of_length_le (by rw [HML.out]; omega)])
          have HLE := Lib.hid (show wr.heap.size > E0 from Nat.lt_of_lt_of_le (Blk.lt HBX5.out) hbq.size)
          clear hbq HROW5 HIX5 HB5
          rw [HTK.out]
          rcases hD : decide (o.t.e.seq ∈ L) with _ | _
          · have HNI := Lib.hid (of_decide_eq_false hD)
            go_wp2_with (at_builtin; refine wpList_appK rfl _ _ 48 rfl w.heap.size 2 i0 (.int .i64 0) 1 8 Try.underlying48 hi hz0 hz1 hz2 rfl (by decide) _ j (nums L) rfl ?b1 (some ⟨wr.heap.size, 0, none⟩) 1 1 [.int .i64 o.t.e.seq] rfl rfl ?b2 ?b3 ?b4 ?b5 ?b6 ?b7)
            case b1 => exact HROW6.out.alloc _
            case b2 => exact Lies.new wr #[.int .i64 o.t.e.seq] _
            case b3 => simp [Value.oneCell']
            case b4 => have := HK2.out; unfold maxLen; omega
            case b5 => have := HK2.out; omega
            case b6 => have := HB6.out.size; simp; omega
            case b7 =>
              intro v3 w7 hown7 hg7 hb7
              have HI7 := Lib.hid ((HI6.out.below ((Below.refl _ wr).alloc (Nat.le_refl _) (.cells #[.int .i64 o.t.e.seq] 2))).row_app hg7 (by rw [World.size_alloc]; exact hb7))
              have HB7 := Lib.hid ((HB6.out.alloc HB6.out.size (.cells #[.int .i64 o.t.e.seq] 2)).grown hg7 (Nat.le_trans HB6.out.size (by simp)) (fun g e => (own_block_lt HROW6.out g (by rw [e]; simp)).2))
              have HO7 := Lib.hid (show w7.ownsRow w.heap.size 2 1 v3 (L ++ [o.t.e.seq]).length (nums (L ++ [o.t.e.seq])) by rw [List.length_append, nums_snoc, HML.out]; exact hown7)
              clear hown7 hg7 hb7
              go_wp2
              go_roundw
              case rel =>
                refine ⟨k + 1, p5, L ++ [o.t.e.seq], by go_num, by omega, HI7.out, HO7.out, by rw [List.length_append, HML.out]; simp; omega, ?_, ?_, HB7.out⟩
                · rw [List.nodup_append]
                  refine ⟨HND.out, by simp, fun a ha c hc e => HNI.out ?_⟩
                  rw [List.mem_singleton.1 hc] at e
                  rw [← e]; exact ha
                · rw [HT.out]
                  intro e he
                  rcases mem_put.1 he with rfl | he
                  · simp
                  · exact List.mem_append_left _ (HIN.out e he.1)
              case measure => simp [intOf]; omega
          · have HYI := Lib.hid (of_decide_eq_true hD)
            go_wp2
            go_roundw
            case rel =>
              refine ⟨k + 1, p5, L, by go_num, by omega, HI6.out, by rw [HML.out]; exact HROW6.out, by rw [HML.out]; omega, HND.out, ?_, HB6.out⟩
              rw [HT.out]
              intro e he
              rcases mem_put.1 he with rfl | he
              · exact HYI.out
              · exact HIN.out e he.1
            case measure => simp [intOf]; omega
    · obtain rfl : k = n := by omega
      have HTK := Lib.hid (show puts14 (l.take k) = puts14 l by rw [List.take_of_length_le (by rw [HN.out]; omega)])
      rw [HTK.out] at HI HIN
      have HPL := Lib.hid (show (puts14 l).length ≤ 200 by have := puts14_len l; have := HN.out; have := HK2.out; omega)
      have HCA := Lib.hid (cnt_all HND.out HIN.out)
      have HCL := Lib.hid (fun (j : Nat) => show cnt (puts14 l) (L.take j) ≤ 200 from Nat.le_trans (cnt_le (HND.out.sublist (List.take_sublist j L))) HPL.out)
      obtain ⟨M, hM⟩ : ∃ M, puts14 l = M := ⟨_, rfl⟩
      rw [hM] at HI HCA HCL HPL
      clear hM HIN HTK HI2
      have HLB := Lib.hid (lies_row HML.out HROW.out)
      clear HROW
      go_wp2
      go_loopw [10, 11] (fun s10 s11 wq => ∃ j : Nat, s11 = .int .i64 (j : Int) ∧ j ≤ m ∧ s10 = .int .i64 (cnt M (L.take j) : Int) ∧ Below wr.heap.size wr wq) (fun _ i _ => m - (intOf i).toNat)
      case atStart => exact ⟨0, rfl, Nat.zero_le _, by simp [cnt], Below.refl _ _⟩
      case round =>
        obtain ⟨j, rfl, hj, rfl, hbq⟩ := hrel
        have HBQ := Lib.hid hbq
        by_cases hjm : j < m
        · have hjL : j < L.length := by rw [HML.out]; exact hjm
          obtain ⟨ls, hls, hlsb, hcs⟩ := at_num HLB.out j hjL
          subst hls
          have c0 := hcs wr hbq
          have HTK := Lib.hid (cnt_take (m := M) hjL)
          have HC1 := HCL.out j
          have HC2 := HCL.out (j + 1)
          clear hcs
          generalize L[j] = lj at *
          have HIN := Lib.hid (in14_any (HI.out.below hbq) lj)
          rw [HTK.out] at HC2
          generalize cnt M (L.take j) = cj at *
          generalize (inn M lj).length = il at *
          go_wp2_with fail
          refine HIN.out.mono ?_
          rintro e w7 ⟨v, rfl, ho, d7⟩
          obtain ⟨A7, c7, rfl, -⟩ := row_form ho
          have HB7 := Lib.hid (hbq.trans (d7.mono hbq.size))
          clear ho d7
          go_wp2
          go_roundw
          case rel => exact ⟨j + 1, by go_num, by omega, by rw [HTK.out]; go_num, HB7.out⟩
          case measure => simp [intOf]; omega
        · obtain rfl : j = m := by omega
          have HTK := Lib.hid (show cnt M (L.take j) = M.length by rw [List.take_of_length_le (by rw [HML.out]; omega), HCA.out])
          have HI8 := Lib.hid (HI.out.below hbq)
          have HB8 := Lib.hid (HBR.out.trans (hbq.mono HBR.out.size))
          rw [HTK.out]
          generalize hml : M.length = ml at *
          clear hbq
          go_wp2_with fail
          refine (many14_any HI8.out).mono ?_
          rintro e w9 ⟨he, rfl⟩
          rw [hml] at he
          subst he
          go_wp2_with fail
          refine (all14_any HI8.out).mono ?_
          rintro e w10 ⟨v, ts, rfl, ho, -, -, d10⟩
          obtain ⟨A8, c8, rfl, -⟩ := row_form ho
          have HB10 := Lib.hid (HB8.out.trans (d10.mono HB8.out.size))
          rw [hml]
          clear ho d10
          go_wp2
          go_ret
          exact ⟨rfl, HB10.out⟩
theorem walk (w : World) (A : Option Addr) (cap : Nat) (l : List Opq) (hl : l.length ≤ cap) (hm : cap ≤ maxLen) (hA : Lies w A (flatO l)) (hQ : ∀ o ∈ l, OpIn w o) :
    Calls Try.prog 7 #[.slice A l.length cap] w fun e w' => e = .returned (.bool true) ∧ Below w.heap.size w w' := walkN w A l.length cap l rfl hl hm hA hQ


set_option maxRecDepth 100000 in
theorem lifted (os : Os) (started : os.Started) (H : Type) (enc : TypeId × Value → H) :
    ReturnsInHanded {} Try.checked os 7 .any (Rows.entryPartsSpec.pre6 enc Try.prog Try.f7 Rows.entryPartsRow.domain false) (Rows.entryPartsSpec.post enc Try.prog Try.f7 false true false false) := by
  refine returnsInHanded_of_change (C := Try.checked) own started (by kernel_rfl) Try.func7
    (ChangeSpec.witness6 (enc := enc) (C := Try.checked) false ⟨#[], #[.slice none 0 0], []⟩ 8 (by kernel_rfl) (by kernel_rfl) (by kernel_rfl) (by kernel_rfl)) ?_
  intro W base args ds gs before hval0 hW hcnd _
  have hval : ∀ (j : Nat) t v, Try.f7.params[j]? = some t → args[j]? = some v → Value.okWide Try.prog W .any base t v := hval0
  have hfin := fun W' => law_post (enc := enc) (P := Try.prog) (f := Try.f7) (s := Rows.entryPartsSpec) (tb := 4) (W := W) (W' := W') (args := args) (ds := ds) (gs := gs) (before := before) laidOut rfl (by kernel_rfl) Try.underlying4 (by kernel_rfl) (fun xs h => by rw [Try.params7] at h; match xs, h with | [_], _ => rfl) hW
  have hlt : ∀ x ∈ before, x.block < W.heap.size := fun x hx => hW.lt x hx
  obtain ⟨p, q, hA0, hV, rfl, hfz, hnd⟩ := hW
  have hA : DataW.TrodAll enc Try.prog W 0 (fun _ => true) true Try.f7.params.toList args.toList ds p := hA0
  rw [Try.params7] at hA hval
  obtain ⟨v0, vs0, d0, ds0, p0, q0, hargs, rfl, rfl, h0, r0⟩ := trodAll_cons hA
  obtain ⟨rfl, rfl, rfl⟩ := trodAll_nil r0
  obtain rfl : args = #[v0] := by cases args; simp_all
  obtain ⟨A0, cap0, l0, rfl, hl0, hm0, hB0, hQ0⟩ := open_ops14 (hval 0 22 v0 rfl rfl) h0 (fun x hx => hlt x (by simp [hx]))
  refine (walk W A0 cap0 l0 hl0 hm0 hB0 hQ0).mono fun e W' ⟨he, hg⟩ => ?_
  subst he
  exact ⟨_, rfl, hfin W' hg⟩

theorem proved : Rows.EntryPartsSaid :=
  OpenClaim.holds_of_wide 7 Try.f7 rfl rfl rfl rfl rfl rfl rfl ⟨rfl, rfl, rfl, rfl, rfl⟩ rfl rfl rfl rfl rfl (by kernel_rfl) Try.func7 (by kernel_rfl)
    (of_decide_eq_true (by kernel_rfl)) (by unfold Func.isWrapper; first | (rw [if_pos (by decide +kernel)]; kernel_rfl) | (rw [if_neg (by decide +kernel)]; exact ⟨rfl, rfl⟩))
    (fun os started H enc _ => lifted os started H enc)
#print axioms proved
end Go.Proofs.Ytepfbpljkhchbaa.entryParts
