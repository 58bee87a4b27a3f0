/-
  P14.3, EntryOrder: for all calls the law returns true: all are told, once, in order; each is in just one extent, and told there in its place. No condition.
-/
import Derived.Test.YtepfbpljkhchbaaLwE
import Derived.BigRegion
import Derived.Deep.CutRange
namespace Go.Proofs.Ytepfbpljkhchbaa.entryOrder
open Go.ChangeShapes Go.WideShapes Go.ChangeAt Go.RowKit Go.Maps En
set_option maxRecDepth 100000

/-- how often a number comes -/
def cnt (i : Int) : List Int → Nat
  | [] => 0
  | a :: r => (if a = i then 1 else 0) + cnt i r
theorem cnt_snoc (i a : Int) : ∀ l : List Int, cnt i (l ++ [a]) = cnt i l + if a = i then 1 else 0
  | [] => by simp [cnt]
  | c :: r => by rw [List.cons_append, cnt, cnt_snoc i a r, cnt]; omega
theorem cnt_none {i : Int} : ∀ {l : List Int}, i ∉ l → cnt i l = 0
  | [], _ => rfl
  | a :: r, h => by
    rw [List.mem_cons, not_or] at h
    rw [cnt, cnt_none h.2, if_neg (fun e => h.1 e.symm)]
theorem cnt_one {i : Int} : ∀ {l : List Int}, l.Nodup → i ∈ l → cnt i l = 1
  | [], _, h => by cases h
  | a :: r, hn, h => by
    rw [List.nodup_cons] at hn
    rw [cnt]
    by_cases e : a = i
    · subst e; rw [if_pos rfl, cnt_none hn.1]
    · rw [if_neg e, cnt_one hn.2 ((List.mem_cons.1 h).resolve_left fun e2 => e e2.symm)]
theorem cnt_le (i : Int) : ∀ l : List Int, cnt i l ≤ l.length
  | [] => Nat.le_refl _
  | a :: r => by
    have := cnt_le i r
    rw [cnt, List.length_cons]
    split <;> omega

set_option maxHeartbeats 16000000 in
theorem walkN (w : World) (A : Option Addr) (n cap : Nat) (l : List Opq) (hn : l.length = n) (hl : n ≤ cap) (hm : cap ≤ maxLen) (hA : Lies w A (flatO l)) (hQ : ∀ o ∈ l, OpIn w o) :
    Calls Try.prog 5 #[.slice A n cap] w fun e w' => e = .returned (.bool true) ∧ Below w.heap.size w w' := by
  have HA := Lib.hid hA
  have HN := Lib.hid hn
  have HQ := Lib.hid hQ
  have HNM := Lib.hid (show n ≤ maxLen from Nat.le_trans hl hm)
  clear hA hn hQ hl hm
  go_enter Try.func5, Try.ntmps5
  go_wp2_with fail
  refine (head14_any w).mono ?_
  rintro e w1 ⟨rfl, d1⟩
  have HB1 := Lib.hid d1
  clear d1
  go_wp2_with fail
  refine (new14_any [] w1 (by simp)).mono ?_
  rintro e w2 ⟨x, b, rfl, hI2, hx, hbx, d2⟩
  have HI2 := Lib.hid hI2
  have HB2 := Lib.hid (HB1.out.trans (d2.mono HB1.out.size))
  have HBB := Lib.hid (And.intro (Nat.le_trans HB1.out.size hx) (Nat.le_trans HB1.out.size hbx))
  clear hI2 hx hbx d2
  go_wp2_with fail
  refine (great14_any A n cap l w2 HN.out HNM.out (HA.out.below HB2.out) (fun o ho => (HQ.out o ho).t.below HB2.out)).mono ?_
  rintro e w3 ⟨r, rfl, hr, rfl⟩
  rcases r with _ | _
  rotate_left
  · have HB := HB2.out
    go_wp2
    go_ret
    exact ⟨rfl, HB⟩
  have HR := Lib.hid (hr rfl)
  have hn200 := HR.out.1
  clear hr
  go_wp2
  go_loopw [5] (fun s wr => ∃ (k : Nat) (p : Int → Nat), s = .int .i64 (k : Int) ∧ k ≤ n ∧ IsIdx [] wr x b p (puts14 (l.take k)) ∧ (∀ i ∈ mine x b p (puts14 (l.take k)), w.heap.size ≤ i) ∧ Below w.heap.size w wr) (fun i _ => n - (intOf i).toNat)
  case atStart =>
    refine ⟨0, _, rfl, Nat.zero_le _, HI2.out, fun i hi => ?_, HB2.out⟩
    rcases mem_mine.1 hi with rfl | rfl | ⟨e, he, -⟩
    · exact HBB.out.1
    · exact HBB.out.2
    · cases he
  case round =>
    obtain ⟨k, p, rfl, hk, hI, hmi, hbr⟩ := hrel
    have HI := Lib.hid hI
    have HMI := Lib.hid hmi
    have HBR := Lib.hid hbr
    clear hI hmi hbr
    by_cases hlt : k < n
    · have hkl : k < l.length := by rw [HN.out]; exact hlt
      obtain ⟨ad, rfl, hadb, hcl⟩ := at_op HA.out k hkl
      have HIX := Lib.hid (fun (W : World) => show (Instr.indexAt 22 (.slice (some ad) n cap) (.int .i64 (k : Int))).run Try.prog W = .ok (.pointer (some (ad.add (k * 20)))) W by go_simp)
      have hix := HIX.out
      obtain ⟨c0, c1, c2, c3, c4, c5, c6, c7, c8, c9, c10, c11, c12⟩ := op_ent (hcl wr HBR.out)
      have hO := HQ.out l[k] (List.getElem_mem hkl)
      have HT := Lib.hid (puts14_take l k hkl)
      have HO := Lib.hid hO
      have H9 := Lib.hid (HR.out.2 l[k] (List.getElem_mem hkl))
      clear hcl hO
      obtain ⟨o, ho⟩ : ∃ o, l[k] = o := ⟨_, rfl⟩
      rw [ho] at c0 c1 c2 c3 c4 c5 c6 c7 c8 c9 c10 c11 c12 HT HO H9
      clear ho
      generalize ad.add (k * 20) = q at *
      obtain ⟨sn, hsn⟩ : ∃ sn, o.t.e.sv.length = sn := ⟨_, rfl⟩
      rw [hsn] at c9 H9
      have HSN := Lib.hid hsn
      clear hsn
      have hp := put14_any HI.out (by simp) (by have := puts14_len (l.take k); simp at this; omega) o.t.e HO.out.t.id o.t.A sn o.t.cap HSN.out ((HO.out.t.below HBR.out).svs (by rw [HSN.out]; exact H9.out))
      unfold enA at hp
      have HP := Lib.hid hp
      clear hp
      go_wp2_with fail
      clear c0 c1 c2 c3 c4 c5 c6 c7 c8 c9 c10 c11 c12
      refine HP.out.mono ?_
      rintro e w5 ⟨rfl, p5, hI5, hk5, hm5⟩
      rw [← HT.out] at hI5 hm5
      have HB5 := Lib.hid (Kept.below HBR.out hk5 (by simp; exact HBB.out.2))
      have HI5 := Lib.hid hI5
      have HM5 := Lib.hid (show ∀ i ∈ mine x b p5 (puts14 (l.take (k + 1))), w.heap.size ≤ i from fun i hi => (hm5 i hi).elim (HMI.out i) (fun h => Nat.le_trans HBR.out.size h))
      clear hI5 hk5 hm5 HP HI HMI HBR
      go_wp2
      go_roundw
      case rel => exact ⟨k + 1, p5, by go_num, by omega, HI5.out, HM5.out, HB5.out⟩
      case measure => simp [intOf]; omega
    · obtain rfl : k = n := by omega
      have hpl := puts14_len l
      rw [HN.out] at hpl
      have hok := puts14_ok l
      rw [List.take_of_length_le (by rw [HN.out]; omega)] at HI HMI
      obtain ⟨M, hM⟩ : ∃ M, puts14 l = M := ⟨_, rfl⟩
      rw [hM] at HI HMI hpl hok
      have HOK := Lib.hid hok
      have HPL := Lib.hid (show M.length ≤ 200 by omega)
      clear hM hlt hpl hok HI2 HA HQ
      go_wp2_with fail
      refine (all14_any HI.out).mono ?_
      rintro e w4 ⟨v, ts, rfl, ho, hts, hsv, d4⟩
      obtain ⟨Aa, ca, rfl, hca1, hca2, hLa, -, -⟩ := row_form ho
      have HLA := Lib.hid (show Lies w4 Aa (flatEn ts) by
        rcases hLa with h | h
        · have : ts = [] := by rw [← List.map_eq_nil_iff (f := Ent.e), hts]; exact nil_of_len h
          rw [this]; exact .inl rfl
        · exact h)
      have HI4 := Lib.hid (HI.out.below d4)
      have HB4 := Lib.hid (HBR.out.trans (d4.mono HBR.out.size))
      have HTS := Lib.hid hts
      clear ho hsv d4 hLa HI HBR hts
      go_wp2_with fail
      refine (items14_any HI4.out).mono ?_
      rintro e w5 ⟨v, rfl, ho, d5⟩
      obtain ⟨Ai, ci, rfl, hci1, hci2, hLi, -, -⟩ := row_form ho
      have HLI := Lib.hid (show Lies w5 Ai (flatI (M.map itemE)) by
        rcases hLi with h | h
        · rw [nil_of_len h]; exact .inl rfl
        · exact h)
      have HLA5 := Lib.hid (HLA.out.below d5)
      have HI5 := Lib.hid (HI4.out.below d5)
      have HB5 := Lib.hid (HB4.out.trans (d5.mono HB4.out.size))
      clear ho d5 hLi HLA HI4 HB4
      have HM5 := Lib.hid (many14_any HI5.out)
      obtain ⟨m, hml⟩ : ∃ m, M.length = m := ⟨_, rfl⟩
      rw [hml] at HM5 HPL hca1 hci1
      simp only [hml]
      have HML := Lib.hid hml
      clear hml
      have hm200 := HPL.out
      unfold maxLen at hca2 hci2
      go_wp2_with fail
      refine HM5.out.mono ?_
      rintro e w6 ⟨rfl, rfl⟩
      go_wp2
      go_loopw [8] (fun s wq => ∃ k : Nat, s = .int .i64 (k : Int) ∧ k ≤ m ∧ Below w6.heap.size w6 wq) (fun i _ => m - (intOf i).toNat)
      case atStart => exact ⟨0, rfl, Nat.zero_le _, Below.refl _ _⟩
      case round =>
        obtain ⟨k, rfl, hk, hbq⟩ := hrel
        have HBQ := Lib.hid hbq
        by_cases hlt : k < m
        · have hkM : k < M.length := by rw [HML.out]; exact hlt
          have hkt : k < ts.length := by have := congrArg List.length HTS.out; simp at this; omega
          have hte : ts[k].e = M[k] := by have := HTS.out; subst this; simp
          obtain ⟨aa, rfl, haab, hcl⟩ := at_ent HLA5.out k hkt
          obtain ⟨ai, rfl, haib, hci⟩ := at_item HLI.out k (by simpa using hkM)
          obtain ⟨c0, c1, c2, c3, c4, c5, c6, c7, c8, c9, c10, c11, c12⟩ := ent_all (hcl wr hbq)
          have HYM := Lib.hid (show M[k] ∈ M from List.getElem_mem hkM)
          have HPV := Lib.hid (show 0 < k → ∃ (pt pi : Int), (∀ W, Below w6.heap.size w6 W → W.cell? (aa.add ((k - 1) * 13)) = some (.int .i64 pi) ∧ W.cell? ⟨(aa.add ((k - 1) * 13)).block, (aa.add ((k - 1) * 13)).off + 2, none⟩ = some (.int .i64 pt)) ∧ (pt < M[k].tick ∨ pt = M[k].tick ∧ pi < M[k].id) from fun h0 => by
            have hk1 : k - 1 < ts.length := by omega
            obtain ⟨aa2, e2, -, hcl2⟩ := at_ent HLA5.out (k - 1) hk1
            cases e2
            refine ⟨_, _, fun W hW => ⟨(ent_all (hcl2 W hW)).1, (ent_all (hcl2 W hW)).2.2.1⟩, ?_⟩
            have hte2 : ts[k - 1].e = M[k - 1] := by have := HTS.out; subst this; simp
            rw [hte2]
            have := List.pairwise_iff_getElem.1 HOK.out.so (k - 1) k (by omega) hkM (by omega)
            exact lt_iff.1 this)
          rw [hte] at c0 c1 c2 c3 c4 c5 c6 c7 c8 c10 c11 c12
          simp only [List.getElem_map, itemE] at hci
          obtain ⟨y, hy⟩ : ∃ y, M[k] = y := ⟨_, rfl⟩
          rw [hy] at c0 c1 c2 c3 c4 c5 c6 c7 c8 c10 c11 c12 hci HPV HYM
          obtain ⟨sA, hsA⟩ : ∃ sA, ts[k].A = sA := ⟨_, rfl⟩
          obtain ⟨sc, hsc⟩ : ∃ sc, ts[k].cap = sc := ⟨_, rfl⟩
          obtain ⟨sn, hsn⟩ : ∃ sn, ts[k].e.sv.length = sn := ⟨_, rfl⟩
          rw [hsA, hsc, hsn] at c9
          have hix := fun (W : World) => show (Instr.indexAt 51 (.slice (some aa) m ca) (.int .i64 (k : Int))).run Try.prog W = .ok (.pointer (some (aa.add (k * 13)))) W by go_simp
          have hii := fun (W : World) => show (Instr.indexAt 54 (.slice (some ai) m ci) (.int .i64 (k : Int))).run Try.prog W = .ok (.pointer (some (ai.add (k * 5)))) W by go_simp
          have HIP := Lib.hid (fun (h0 : 0 < k) (W : World) => show (Instr.indexAt 51 (.slice (some aa) m ca) (.int .i64 ((k : Int) - 1))).run Try.prog W = .ok (.pointer (some (aa.add ((k - 1) * 13)))) W by
            have e : (k : Int) - 1 = ((k - 1 : Nat) : Int) := by omega
            rw [e]
            have : k - 1 < m := by omega
            generalize k - 1 = k' at *
            go_simp)
          have hne : ∀ W, (binOp .neq 30 (.agg #[.int .i64 y.id, .int .i64 y.cl, .int .i64 y.tick, .int .i64 y.cost, .bool y.pin]) (.agg #[.int .i64 y.id, .int .i64 y.cl, .int .i64 y.tick, .int .i64 y.cost, .bool y.pin])).run Try.prog W = .ok (.bool false) W := fun W => by
            have := neq_it W ⟨y.id, y.cl, y.tick, y.cost, y.pin⟩ ⟨y.id, y.cl, y.tick, y.cost, y.pin⟩
            simpa [itV] using this
          obtain ⟨W9, hW9⟩ : ∃ W9, wr.alloc (.cells #[.int .i64 y.id, .int .i64 y.cl, .int .i64 y.tick, .int .i64 y.cost, .bool y.pin, .int .i64 y.bid, .int .i64 y.lo, .int .i64 y.hi, .int .i64 y.many, .slice sA sn sc, .int .i64 y.seq, .int .i64 y.pl, .int .i64 y.sz] 35) = W9 := ⟨_, rfl⟩
          obtain ⟨E0, hE0⟩ : ∃ E0, wr.heap.size = E0 := ⟨_, rfl⟩
          have hyb : Blk W9 E0 #[.int .i64 y.id, .int .i64 y.cl, .int .i64 y.tick, .int .i64 y.cost, .bool y.pin, .int .i64 y.bid, .int .i64 y.lo, .int .i64 y.hi, .int .i64 y.many, .slice sA sn sc, .int .i64 y.seq, .int .i64 y.pl, .int .i64 y.sz] 35 := by rw [← hW9, ← hE0]; exact Blk.new _ _ _
          have hb9 : Below w6.heap.size w6 W9 := by rw [← hW9]; exact hbq.trans (((Below.refl _ _).alloc (Nat.le_refl _) _).mono hbq.size)
          have HYB := Lib.hid hyb
          have HB9 := Lib.hid hb9
          have HW9 := Lib.hid hW9
          obtain ⟨i0, i1, i2, i3, i4⟩ := hci W9 hb9
          have y0 := hyb.cell 0
          have y1 := hyb.cell 1
          have y2 := hyb.cell 2
          have y3 := hyb.cell 3
          have y4 := hyb.cell 4
          simp at y0 y1 y2 y3 y4
          clear hcl hci hy hsA hsc hsn hte hW9 hyb hb9
          generalize aa.add ((k - 1) * 13) = qp at *
          generalize aa.add (k * 13) = qa at *
          generalize ai.add (k * 5) = qi at *
          go_wp2_with fail
          rw [HW9.out]
          clear c0 c1 c2 c3 c4 c5 c6 c7 c8 c9 c10 c11 c12
          go_cut [117] from 68 to 117 (fun s wc => s = .bool false ∧ Below W9.heap.size W9 wc)
          case first =>
            by_cases h0 : 0 < k
            · obtain ⟨pt, pi, hp, hpt⟩ := HPV.out h0
              obtain ⟨p0, p2⟩ := hp W9 HB9.out
              have hip := HIP.out h0
              have h0' : decide ((0 : Int) < (k : Int)) = true := by simpa using h0
              clear hp
              rcases hpt with hpt | ⟨hpt, hpid⟩
              · have t1 : decide (y.tick < pt) = false := by simp; omega
                have t2 : (pt == y.tick) = false := beq_eq_false_iff_ne.2 (by omega)
                go_quiet (fail)
                go_wp2_with fail
                go_meet
                exact ⟨rfl, below_many (Below.refl _ _) _⟩
              · subst hpt
                have t3 : decide (y.id ≤ pi) = false := by simp; omega
                go_quiet (fail)
                go_wp2_with fail
                go_meet
                exact ⟨rfl, below_many (Below.refl _ _) _⟩
            · have h0' : decide ((0 : Int) < (k : Int)) = false := by simpa using h0
              go_quiet (fail)
              go_wp2_with fail
              go_meet
              exact ⟨rfl, below_many (Below.refl _ _) _⟩
          case rest =>
            obtain ⟨rfl, hbc⟩ := hcut
            have HYC := Lib.hid ((Kept.of hbc []).blk HYB.out (by simp))
            have hyc := HYC.out
            have y10 := hyc.cell 10
            have y11 := hyc.cell 11
            simp at y10 y11
            have HBC := Lib.hid (HB9.out.trans (hbc.mono HB9.out.size))
            have HIN := Lib.hid (in14_any (HI5.out.below HBC.out) y.seq)
            clear hyc hbc HYB HB9 HW9 i0 i1 i2 i3 i4 y0 y1 y2 y3 y4 hix hii hne HIP HPV HBQ hbq
            go_wp2_with fail
            refine HIN.out.mono ?_
            rintro e wi ⟨v, rfl, ho, di⟩
            obtain ⟨An, cn, hv, hcn1, hcn2, hLn⟩ := row_lies ho
            subst hv
            obtain ⟨rw14, hrw⟩ : ∃ r, row M y.seq = r := ⟨_, rfl⟩
            have hinn : inn M y.seq = rw14.map E.id := by unfold inn; rw [hrw]
            rw [hinn] at hLn hcn1
            simp only [hinn, List.length_map] at hcn1 ⊢
            have HRW := Lib.hid hrw
            have HLN := Lib.hid hLn
            have HBI := Lib.hid (HBC.out.trans (di.mono HBC.out.size))
            have HYI := Lib.hid ((Kept.of di []).blk HYC.out (by simp))
            obtain ⟨nr, hnr⟩ : ∃ nr, rw14.length = nr := ⟨_, rfl⟩
            rw [hnr] at hcn1 ⊢
            have HNR := Lib.hid hnr
            have hnr200 : nr ≤ 200 := by
              have h1 := HPL.out
              have h2 := HML.out
              have h3 : rw14.length ≤ M.length := by rw [← hrw, (row_perm M y.seq).length_eq]; exact List.length_filter_le ..
              omega
            unfold maxLen at hcn2
            have y11 := HYI.out.cell 11
            simp at y11
            clear ho di hLn hinn hrw hnr HIN HBC HYC y10
            have HONE := Lib.hid (show cnt y.id (rw14.map E.id) = 1 from by
              rw [← HRW.out]
              exact cnt_one (row_uq HOK.out.uq y.seq) (List.mem_map.2 ⟨y, mem_row.2 ⟨HYM.out, rfl⟩, rfl⟩))
            go_wp2
            go_loopw [11, 12, 13] (fun s11 s12 s13 wq => ∃ (j : Nat) (z : Int), s13 = .int .i64 (j : Int) ∧ j ≤ nr ∧ s11 = .int .i64 (cnt y.id ((rw14.take j).map E.id) : Int) ∧ s12 = .int .i64 z ∧ (∀ h : 0 < j, ∀ h2 : j - 1 < rw14.length, z = rw14[j - 1].pl) ∧ Below wi.heap.size wi wq) (fun _ _ i _ => nr - (intOf i).toNat)
            case atStart => exact ⟨0, y.pl, rfl, Nat.zero_le _, by simp [cnt], rfl, fun h => absurd h (by omega), Below.refl _ _⟩
            case round =>
              obtain ⟨j, z, rfl, hj, rfl, rfl, hz, hbj⟩ := hrel
              have HZ := Lib.hid hz
              clear hz y11
              have HBJ := Lib.hid hbj
              by_cases hjn : j < nr
              · have hjr : j < rw14.length := by rw [HNR.out]; exact hjn
                obtain ⟨an, rfl, -, hcn⟩ := at_num HLN.out j (by simpa using hjr)
                have hmem : rw14[j] ∈ M ∧ rw14[j].seq = y.seq := mem_row.1 (HRW.out ▸ List.getElem_mem hjr)
                have hget : En.get M rw14[j].id = some rw14[j] := get_of HOK.out.uq hmem.1
                have HGT := Lib.hid (get14_any (HI5.out.below (HBI.out.trans (hbj.mono HBI.out.size))) (i := rw14[j].id) (HI5.out.fit _ hmem.1))
                have HLAST := Lib.hid (show 0 < j → z ≤ rw14[j].pl from fun h0 => by
                  rw [HZ.out h0 (by omega)]
                  have h1 := row_so HOK.out.uq y.seq
                  rw [HRW.out] at h1
                  have h2 := List.pairwise_iff_getElem.1 h1 (j - 1) j (by omega) hjr (by omega)
                  rw [ltP_iff] at h2
                  omega)
                have HCT := Lib.hid (show cnt y.id ((rw14.take (j + 1)).map E.id) = cnt y.id ((rw14.take j).map E.id) + if rw14[j].id = y.id then 1 else 0 by
                  rw [List.take_succ_eq_append_getElem hjr, List.map_append]
                  exact cnt_snoc _ _ _)
                have HCL := Lib.hid (show cnt y.id ((rw14.take j).map E.id) ≤ 200 from Nat.le_trans (cnt_le _ _) (by simp; omega))
                unfold got14 at HGT
                rw [hget] at HGT
                simp only [Option.getD_some, Option.isSome_some] at HGT
                have HCN := Lib.hid hcn
                have i0 := hcn wr (HBJ.out)
                simp only [List.getElem_map] at i0
                have hsq := hmem.2
                have HSL := Lib.hid (show rw14[j].sv.length ≤ 9000 by
                  obtain ⟨_, _, _, hs, _⟩ := HI5.out.ent _ hmem.1
                  exact hs.few)
                clear hcn hmem hget
                simp only [List.getElem_map] at HCN
                generalize hzz : rw14[j] = zz at *
                obtain ⟨C, hC⟩ : ∃ C, cnt y.id ((rw14.take j).map E.id) = C := ⟨_, rfl⟩
                rw [hC] at HCT HCL ⊢
                have hCL := HCL.out
                have HSQ := Lib.hid hsq
                have HPJ := Lib.hid (show ∀ h : 0 < j + 1, ∀ h2 : j + 1 - 1 < rw14.length, zz.pl = rw14[j + 1 - 1].pl from fun _ _ => by rw [← hzz]; rfl)
                clear hC hsq hzz
                go_wp2_with fail
                refine HGT.out.mono ?_
                rintro e wg ⟨v, rfl, ho, dg⟩
                obtain ⟨Cs, c2, rfl, -, -⟩ := row_svs ho rfl HSL.out
                have hyi := (Kept.of dg []).blk ((Kept.of HBJ.out []).blk HYI.out (by simp)) (by simp)
                have y0 := hyi.cell 0
                have y10 := hyi.cell 10
                simp at y0 y10
                have hE0 := hyi.lt
                have hbg := hbj.trans (dg.mono hbj.size)
                have HBG := Lib.hid hbg
                obtain ⟨sn2, hsn2⟩ : ∃ s, zz.sv.length = s := ⟨_, rfl⟩
                rw [hsn2]
                obtain ⟨zid, zcl, zti, zco, zpi, zbi, zlo, zhi, zma, zsv, zse, zpl, zsz⟩ := zz
                simp only at HLAST HCT HPJ HSQ HCN hsn2
                obtain rfl : zse = y.seq := HSQ.out
                have HB9 := Lib.hid (hbg.trans (((Below.refl wg.heap.size wg).alloc (Nat.le_refl _) (.cells #[.int .i64 zid, .int .i64 zcl, .int .i64 zti, .int .i64 zco, .bool zpi, .int .i64 zbi, .int .i64 zlo, .int .i64 zhi, .int .i64 zma, .slice Cs sn2 c2, .int .i64 y.seq, .int .i64 zpl, .int .i64 zsz] 35)).mono hbg.size))
                obtain ⟨Wz, hWz⟩ : ∃ Wz, wg.alloc (.cells #[.int .i64 zid, .int .i64 zcl, .int .i64 zti, .int .i64 zco, .bool zpi, .int .i64 zbi, .int .i64 zlo, .int .i64 zhi, .int .i64 zma, .slice Cs sn2 c2, .int .i64 y.seq, .int .i64 zpl, .int .i64 zsz] 35) = Wz := ⟨_, rfl⟩
                rw [hWz] at HB9
                have HWZ := Lib.hid hWz
                have i0z := HCN.out Wz HB9.out
                have hyz := (Kept.of (show Below wg.heap.size wg Wz by rw [← hWz]; exact (Below.refl _ _).alloc (Nat.le_refl _) _) []).blk hyi (by simp)
                have y0z := hyz.cell 0
                simp at y0z
                have HDY := Lib.hid (show (zid == y.id) = true → zid = y.id from fun h => by simpa using h)
                have HDN := Lib.hid (show (zid == y.id) = false → ¬ zid = y.id from fun h => by simpa using h)
                obtain ⟨D, hD⟩ : ∃ D, (zid == y.id) = D := ⟨_, rfl⟩
                rw [hD] at HDY HDN
                clear ho dg hyi hbg HGT i0 hsn2 HSQ HSL HCN hyz hWz
                unfold enA
                by_cases h0 : 0 < j
                · have h0' : decide ((0 : Int) < (j : Int)) = true := by simpa using h0
                  have t1 : decide (zpl < z) = false := by have := HLAST.out h0; simp; omega
                  rcases D with _ | _
                  · go_wp2
                    rw [HWZ.out]
                    go_quiet (fail)
                    go_wp2
                    go_roundw
                    case rel => exact ⟨j + 1, zpl, by go_num, by omega, by rw [HCT.out, if_neg (HDN.out (by trivial))]; first | done | rfl | go_num, rfl, HPJ.out, below_many HB9.out _⟩
                    case measure => simp [intOf]; omega
                  · go_wp2
                    rw [HWZ.out]
                    go_quiet (fail)
                    go_wp2
                    go_roundw
                    case rel => exact ⟨j + 1, zpl, by go_num, by omega, by rw [HCT.out, if_pos (HDY.out (by trivial))]; first | done | rfl | go_num, rfl, HPJ.out, below_many HB9.out _⟩
                    case measure => simp [intOf]; omega
                · have h0' : decide ((0 : Int) < (j : Int)) = false := by simpa using h0
                  rcases D with _ | _
                  · go_wp2
                    rw [HWZ.out]
                    go_quiet (fail)
                    go_wp2
                    go_roundw
                    case rel => exact ⟨j + 1, zpl, by go_num, by omega, by rw [HCT.out, if_neg (HDN.out (by trivial))]; first | done | rfl | go_num, rfl, HPJ.out, below_many HB9.out _⟩
                    case measure => simp [intOf]; omega
                  · go_wp2
                    rw [HWZ.out]
                    go_quiet (fail)
                    go_wp2
                    go_roundw
                    case rel => exact ⟨j + 1, zpl, by go_num, by omega, by rw [HCT.out, if_pos (HDY.out (by trivial))]; first | done | rfl | go_num, rfl, HPJ.out, below_many HB9.out _⟩
                    case measure => simp [intOf]; omega
              · obtain rfl : j = nr := by omega
                have HC := Lib.hid (show cnt y.id ((rw14.take j).map E.id) = 1 by rw [List.take_of_length_le (by rw [HNR.out]; omega), HONE.out])
                have HB9 := Lib.hid (HBI.out.trans (hbj.mono HBI.out.size))
                rw [HC.out]
                clear hbj
                go_wp2
                go_roundw
                case rel => exact ⟨k + 1, by go_num, by omega, HB9.out⟩
                case measure => simp [intOf]; omega
        · obtain rfl : k = m := by omega
          have HB9 := Lib.hid (HB5.out.trans (hbq.mono HB5.out.size))
          clear hbq
          go_wp2
          go_ret
          exact ⟨rfl, HB9.out⟩
theorem walk (w : World) (A : Option Addr) (cap : Nat) (l : List Opq) (hl : l.length ≤ cap) (hm : cap ≤ maxLen) (hA : Lies w A (flatO l)) (hQ : ∀ o ∈ l, OpIn w o) :
    Calls Try.prog 5 #[.slice A l.length cap] w fun e w' => e = .returned (.bool true) ∧ Below w.heap.size w w' := walkN w A l.length cap l rfl hl hm hA hQ


set_option maxRecDepth 100000 in
theorem lifted (os : Os) (started : os.Started) (H : Type) (enc : TypeId × Value → H) :
    ReturnsInHanded {} Try.checked os 5 .any (Rows.entryOrderSpec.pre6 enc Try.prog Try.f5 Rows.entryOrderRow.domain false) (Rows.entryOrderSpec.post enc Try.prog Try.f5 false true false false) := by
  refine returnsInHanded_of_change (C := Try.checked) own started (by kernel_rfl) Try.func5
    (ChangeSpec.witness6 (enc := enc) (C := Try.checked) false ⟨#[], #[.slice none 0 0], []⟩ 8 (by kernel_rfl) (by kernel_rfl) (by kernel_rfl) (by kernel_rfl)) ?_
  intro W base args ds gs before hval0 hW hcnd _
  have hval : ∀ (j : Nat) t v, Try.f5.params[j]? = some t → args[j]? = some v → Value.okWide Try.prog W .any base t v := hval0
  have hfin := fun W' => law_post (enc := enc) (P := Try.prog) (f := Try.f5) (s := Rows.entryOrderSpec) (tb := 4) (W := W) (W' := W') (args := args) (ds := ds) (gs := gs) (before := before) laidOut rfl (by kernel_rfl) Try.underlying4 (by kernel_rfl) (fun xs h => by rw [Try.params5] at h; match xs, h with | [_], _ => rfl) hW
  have hlt : ∀ x ∈ before, x.block < W.heap.size := fun x hx => hW.lt x hx
  obtain ⟨p, q, hA0, hV, rfl, hfz, hnd⟩ := hW
  have hA : DataW.TrodAll enc Try.prog W 0 (fun _ => true) true Try.f5.params.toList args.toList ds p := hA0
  rw [Try.params5] at hA hval
  obtain ⟨v0, vs0, d0, ds0, p0, q0, hargs, rfl, rfl, h0, r0⟩ := trodAll_cons hA
  obtain ⟨rfl, rfl, rfl⟩ := trodAll_nil r0
  obtain rfl : args = #[v0] := by cases args; simp_all
  obtain ⟨A0, cap0, l0, rfl, hl0, hm0, hB0, hQ0⟩ := open_ops14 (hval 0 22 v0 rfl rfl) h0 (fun x hx => hlt x (by simp [hx]))
  refine (walk W A0 cap0 l0 hl0 hm0 hB0 hQ0).mono fun e W' ⟨he, hg⟩ => ?_
  subst he
  exact ⟨_, rfl, hfin W' hg⟩

theorem proved : Rows.EntryOrderSaid :=
  OpenClaim.holds_of_wide 5 Try.f5 rfl rfl rfl rfl rfl rfl rfl ⟨rfl, rfl, rfl, rfl, rfl⟩ rfl rfl rfl rfl rfl (by kernel_rfl) Try.func5 (by kernel_rfl)
    (of_decide_eq_true (by kernel_rfl)) (by unfold Func.isWrapper; first | (rw [if_pos (by decide +kernel)]; kernel_rfl) | (rw [if_neg (by decide +kernel)]; exact ⟨rfl, rfl⟩))
    (fun os started H enc _ => lifted os started H enc)
#print axioms proved
end Go.Proofs.Ytepfbpljkhchbaa.entryOrder
