/-
  P12.3, FrameCut: for all bodies and numbers the law returns true: of bytes that are cut the frames that are whole are told, up to where the first one begins that is not. The condition of the second form: what comes in is of bulk at most 1048576; of it only this is used: there are at most so many bodies.
-/
import Derived.Test.YtchfiekepjndeaaOpB
import Derived.Test.YtchfiekepjndeaaBulk
import Derived.JoinedCond
namespace Go.Proofs.Ytchfiekepjndeaa.frameCut
open Go.ChangeShapes Go.WideShapes Go.ChangeAt Go.RowKit

theorem row_le (ls : List (List UInt8)) : (Fra.row ls).length ≤ 3607 * ls.length := by
  induction ls with
  | nil => simp [Fra.row]
  | cons x r ih =>
    have e : (Fra.row (x :: r)).length = Fra.size x.length + (Fra.row r).length := by simp [Fra.row, Fra.put_length]
    have := Fra.size_small (x.length : Int)
    rw [e, List.length_cons]
    omega
theorem flatP_take (L : List PV) (k : Nat) : flatP (L.take k) = (flatP L).take (k * 3) := by
  induction L generalizing k with
  | nil => simp [flatP]
  | cons x r ih =>
    cases k with
    | zero => simp [flatP]
    | succ k =>
      have e : flatP (x :: r) = [Value.int .i64 (x.1.p : Int), .int .i64 (x.1.sz : Int), x.2] ++ flatP r := by simp [flatP]
      have e2 : flatP (x :: r.take k) = [Value.int .i64 (x.1.p : Int), .int .i64 (x.1.sz : Int), x.2] ++ flatP (r.take k) := by simp [flatP]
      rw [List.take_succ_cons, e2, e, ih, show (k + 1) * 3 = k * 3 + 1 + 1 + 1 by omega]
      simp only [List.cons_append, List.nil_append, List.take_succ_cons]
theorem read_take {w : World} {A : Option Addr} {L : List PV} (h : ReadP w A L) (k : Nat) : ReadP w A (L.take k) :=
  ⟨by rw [flatP_take]; exact h.1.take _, fun x hx => h.2 x (List.mem_of_mem_take hx)⟩
theorem slice_hi (A : Option Addr) (n cap k : Nat) (W : World) (h1 : k ≤ n) (h2 : n ≤ cap) : (Instr.sliceAt 22 (.slice A n cap) none (some (.int .i64 (k : Int))) none).run Try.prog W = .ok (.slice A k cap) W := by
  have h : ¬ cap < k := by omega
  have h3 : k ≤ cap := by omega
  go_simp
theorem slice_hiP (A : Option Addr) (n cap k : Nat) (W : World) (h1 : k ≤ n) (h2 : n ≤ cap) : (Instr.sliceAt 24 (.slice A n cap) none (some (.int .i64 (k : Int))) none).run Try.prog W = .ok (.slice A k cap) W := by
  have h : ¬ cap < k := by omega
  have h3 : k ≤ cap := by omega
  go_simp
/-- one part more -/
theorem step {b : List UInt8} {P : List Fra.P} (hp : Fra.Pre b P) (K i : Nat) (hi : i < P.length) :
    (P[i].p + P[i].sz ≤ K → Fra.whole K (P.take (i + 1)) = Fra.whole K (P.take i) + 1 ∧ Fra.tot (P.take (Fra.whole K (P.take (i + 1)))) = P[i].p + P[i].sz) ∧
    (¬ P[i].p + P[i].sz ≤ K → Fra.whole K (P.take (i + 1)) = Fra.whole K (P.take i)) := by
  have he := hp.ends i hi
  have e : P.take (i + 1) = P.take i ++ [P[i]] := List.take_succ_eq_append_getElem hi
  refine ⟨fun h => ?_, fun h => ?_⟩
  · have h1 := (hp.whole_is K (i + 1) hi).1 (by omega)
    refine ⟨by rw [e, Fra.whole_snoc, if_pos h], ?_⟩
    rw [h1, he]
  · rw [e, Fra.whole_snoc, if_neg h, Nat.add_zero]
theorem whole_le (K : Nat) (P : List Fra.P) : Fra.whole K P ≤ P.length := List.length_filter_le _ _
theorem tot_le (b : List UInt8) (i : Nat) : Fra.tot ((Fra.all b).take i) ≤ b.length := Nat.le_trans (Fra.tot_take_le _ _) (Fra.all_pre b).1.len.2

set_option maxHeartbeats 8000000 in
set_option maxRecDepth 100000 in
theorem walkN (w : World) (A : Option Addr) (n cap : Nat) (l : List Bs) (hn : l.length = n) (hm : n ≤ 1048576) (hA : Lies w A (flatB l)) (hQ : ∀ x ∈ l, BsIn w x) (c : Nat) (hc : c ≤ 65535) :
    Calls Try.prog 5 #[.slice A n cap, .int .u16 (c : Int)] w fun e w' => e = .returned (.bool true) ∧ Below w.heap.size w w' := by
  have HN := Lib.hid hn
  have HA := Lib.hid hA
  have HQ := Lib.hid hQ
  clear hn hA hQ
  obtain ⟨ls, hls⟩ : ∃ ls, l.map (·.bs) = ls := ⟨_, rfl⟩
  have hlsl : ls.length = n := by rw [← hls, List.length_map, HN.out]
  have hrow := row_le ls
  rw [hlsl] at hrow
  have HP := Lib.hid (fun W (h : Below w.heap.size w W) => put12_any A n cap l W HN.out (by omega) (HA.out.below h) (fun x hx => (HQ.out x hx).below h) (by rw [hls]; omega))
  rw [hls] at HP
  clear hls hlsl
  obtain ⟨B, hB⟩ : ∃ B, Fra.row ls = B := ⟨_, rfl⟩
  rw [hB] at HP hrow
  clear hB
  obtain ⟨R, hR⟩ : ∃ R, B.length = R := ⟨_, rfl⟩
  rw [hR] at hrow
  have HR := Lib.hid hR
  clear hR
  go_enter Try.func5, Try.ntmps5
  go_wp2_with fail
  refine (head12_any w).mono ?_
  rintro e w1 ⟨rfl, c1⟩
  have HC1 := Lib.hid c1
  clear c1
  go_wp2_with fail
  refine (HP.out w1 HC1.out).mono ?_
  rintro e w2 ⟨vb, rfl, ho2, c2⟩
  rw [HR.out] at ho2
  obtain ⟨A3, c3, rfl, hl3, hm3, -, hL3⟩ := own_form ho2
  have HL3 := Lib.hid hL3
  have HC2 := Lib.hid (HC1.out.trans (c2.mono HC1.out.size))
  clear ho2 hL3 c2 HP
  go_wp2_with fail
  refine (great12_any A n cap l w2 HN.out (by unfold maxLen; omega) (HA.out.below HC2.out)).mono ?_
  rintro e w9 ⟨r, rfl, hr, rfl⟩
  rcases r with _ | _
  rotate_left
  · go_wp2
    go_ret
    exact ⟨rfl, HC2.out⟩
  obtain ⟨hn2, -⟩ := hr rfl
  rw [HN.out] at hn2
  rcases Nat.eq_zero_or_pos R with h0 | h0
  · subst h0
    go_wp2
    go_ret
    exact ⟨rfl, HC2.out⟩
  have dR : ((R : Int) == 0) = false := by rw [beq_eq_false_iff_ne]; omega
  have HF := Lib.hid (fall_any A3 R c3 B w2 HR.out (by omega) hl3 hm3 HL3.out)
  go_wp2_with fail
  refine HF.out.mono ?_
  rintro e w3 ⟨v3, rfl, L, hL, hRow, d3⟩
  obtain ⟨A4, c4, rfl, hl4, -, hRd⟩ := hRow.read
  have HR4 := Lib.hid hRd
  have HC3 := Lib.hid (HC2.out.trans (d3.mono HC2.out.size))
  have HL4 := Lib.hid hL
  have HL33 := Lib.hid (HL3.out.below d3)
  clear hRow hRd d3 hL HF
  obtain ⟨K, hK⟩ : ∃ K, c % R = K := ⟨_, rfl⟩
  have hKR : K < R := by rw [← hK]; exact Nat.mod_lt _ h0
  have hKi : (c : Int) % (R : Int) = (K : Int) := by omega
  have hKw : wrap64 (K : Int) = (K : Int) := IntWalk.wrap64_in _ (by omega)
  have hsh := fun W => slice_hi A3 R c3 K W (by omega) hl3
  have hLT := HL33.out.take K
  rw [cells_take] at hLT
  have HG := Lib.hid (fall_any A3 K c3 (B.take K) w3 (by rw [List.length_take, HR.out]; omega) (by omega) (by omega) hm3 hLT)
  rw [Fra.all_cut] at HG
  obtain ⟨Wn, hWn⟩ : ∃ Wn, Fra.whole K (Fra.all B) = Wn := ⟨_, rfl⟩
  rw [hWn] at HG
  clear hK hLT
  have hqa : L.length = (Fra.all B).length := by have := congrArg List.length HL4.out; simpa using this
  have hWq : Wn ≤ L.length := by rw [hqa, ← hWn]; exact whole_le _ _
  have HTL := Lib.hid (tot_le B)
  rw [HR.out] at HTL
  have HPR := Lib.hid (Fra.all_pre B).1
  have hql : L.length ≤ 1000000 := by
    have := HPR.out.len
    have := HR.out
    omega
  generalize Fra.all B = P at *
  have HWN := Lib.hid hWn
  have HQA := Lib.hid hqa
  clear hWn hqa
  go_wp2_with fail
  refine HG.out.mono ?_
  rintro e w4 ⟨v5, rfl, Lx, hLx, hRowx, d4⟩
  obtain ⟨A5, c5, rfl, -, -, hRdx⟩ := hRowx.read
  have hlx : Lx.length = Wn := by have := congrArg List.length hLx; simp at this; have := HQA.out; omega
  have HRX := Lib.hid hRdx
  have HLX := Lib.hid hLx
  have HNX := Lib.hid hlx
  have HR5 := Lib.hid (HR4.out.below d4)
  have HC4 := Lib.hid (HC3.out.trans (d4.mono HC3.out.size))
  rw [hlx]
  clear hLx hRowx hRdx hlx d4 HG
  obtain ⟨q, hq⟩ : ∃ q, L.length = q := ⟨_, rfl⟩
  rw [hq] at hWq hql hl4 ⊢
  have HQ2 := Lib.hid hq
  clear hq
  go_wp2_with fail
  go_loopw [12, 13, 14] (fun vw va vi wr => ∃ i : Nat, vi = .int .i64 i ∧ i ≤ q ∧ vw = .int .i64 (Fra.whole K (P.take i) : Int) ∧ va = .int .i64 (Fra.tot (P.take (Fra.whole K (P.take i))) : Int) ∧ Below w4.heap.size w4 wr) (fun _ _ vi _ => q - (intOf vi).toNat)
  case atStart => exact ⟨0, rfl, Nat.zero_le _, rfl, rfl, Below.refl _ _⟩
  case round =>
    obtain ⟨i, rfl, hi, rfl, rfl, hbr⟩ := hrel
    have HBR := Lib.hid hbr
    clear hbr
    by_cases hlt : i < q
    · have hil : i < L.length := by rw [HQ2.out]; exact hlt
      have hip : i < P.length := by rw [← HQA.out]; exact hil
      obtain ⟨hst1, hst2⟩ := step HPR.out K i hip
      have hend : P[i].p + P[i].sz ≤ R := by rw [HPR.out.ends i hip]; exact HTL.out _
      have hLi : L[i].1 = P[i] := by
        have h := congrArg (fun m => m[i]?) HL4.out
        simp only [List.getElem?_map, List.getElem?_eq_getElem hil, List.getElem?_eq_getElem hip, Option.map_some, Option.some.injEq] at h
        exact h
      have hwl : Fra.whole K (P.take i) ≤ q := by
        have h1 := whole_le K (P.take i)
        have h2 : (P.take i).length ≤ i := by rw [List.length_take]; omega
        omega
      have htl := HTL.out (Fra.whole K (P.take i))
      obtain ⟨pd, rfl, hpdb, hpc⟩ := at_part HR5.out.1 i hil
      rw [hLi] at hpc
      have x0 := fun z => (hpc (wr.drewN z) (below_many HBR.out z)).1
      have x1 := fun z => (hpc (wr.drewN z) (below_many HBR.out z)).2.1
      obtain ⟨y0, y1, -⟩ := hpc wr HBR.out
      have HS1 := Lib.hid hst1
      have HS2 := Lib.hid hst2
      clear hst1 hst2 hpc hLi
      generalize P[i].p = p at *
      generalize P[i].sz = sz at *
      generalize hwi : Fra.whole K (P.take i) = wi at *
      generalize hti : Fra.tot (P.take wi) = ti at *
      have HTI := Lib.hid hti
      have HWI := Lib.hid hwi
      clear hti hwi
      by_cases hle : p + sz ≤ K
      · obtain ⟨hs1, hs2⟩ := HS1.out hle
        have dle : decide ((p : Int) + (sz : Int) ≤ (K : Int)) = true := by simp; omega
        have HSA := Lib.hid hs1
        have HSB := Lib.hid hs2
        clear hs1 hs2
        go_wp2
        go_quiet (fail)
        go_wp2
        go_quiet (fail)
        go_wp2
        go_roundw
        case rel => exact ⟨i + 1, by go_num, by omega, by rw [HSA.out]; go_num, by rw [HSB.out]; go_num, below_many HBR.out _⟩
        case measure => simp [intOf]; omega
      · have dle : decide ((p : Int) + (sz : Int) ≤ (K : Int)) = false := by simp; omega
        have HSA := Lib.hid (HS2.out hle)
        go_wp2
        go_quiet (fail)
        go_wp2
        go_roundw
        case rel => exact ⟨i + 1, by go_num, by omega, by rw [HSA.out], by rw [HSA.out, HTI.out], below_many HBR.out _⟩
        case measure => simp [intOf]; omega
    · obtain rfl : i = q := by omega
      have e1 : Fra.whole K (P.take i) = Wn := by rw [List.take_of_length_le (by rw [← HQA.out, HQ2.out]; omega)]; exact HWN.out
      rw [e1]
      have hsP := fun W => slice_hiP A4 i c4 Wn W hWq hl4
      have HSM := Lib.hid (same12_yes A5 A4 Wn c5 c4 Lx (L.take Wn) wr HNX.out (by omega) (by rw [HLX.out, List.map_take, HL4.out]) (HRX.out.below HBR.out) ((read_take HR5.out Wn).below HBR.out))
      have HE := Lib.hid (HC4.out.trans (HBR.out.mono HC4.out.size))
      clear e1
      go_wp2_with fail
      refine HSM.out.mono ?_
      rintro e w7 ⟨rfl, d7⟩
      have HE7 := Lib.hid (HE.out.trans (d7.mono HE.out.size))
      clear d7
      go_wp2
      go_ret
      exact ⟨rfl, HE7.out⟩

theorem walk (w : World) (A : Option Addr) (cap : Nat) (l : List Bs) (_ : l.length ≤ cap) (_ : cap ≤ maxLen) (hA : Lies w A (flatB l)) (hQ : ∀ x ∈ l, BsIn w x) (hb : l.length ≤ 1048576) (x : Int) (hx : 0 ≤ x ∧ x ≤ 65535) :
    Calls Try.prog 5 #[.slice A l.length cap, .int .u16 x] w fun e w' => e = .returned (.bool true) ∧ Below w.heap.size w w' := by
  obtain ⟨c, rfl⟩ := Int.eq_ofNat_of_zero_le hx.1
  exact walkN w A l.length cap l rfl hb hA hQ c (by omega)


set_option maxRecDepth 100000 in
theorem lifted (os : Os) (started : os.Started) (H : Type) (enc : TypeId × Value → H) (G : Stop.Interp) :
    ReturnsInHanded {} Try.checked os 5 .any ((Rows.OpenSpec.upto Rows.frameCutSpec).pre6 enc Try.prog Try.f5 Rows.frameCutUptoRow.domain false) (((Rows.OpenSpec.upto Rows.frameCutSpec).at G).post enc Try.prog Try.f5 false true false false) := by
  refine returnsInHanded_of_cond (C := Try.checked) (s := Rows.OpenSpec.upto Rows.frameCutSpec) (k := Rows.uptoSmall) rfl own started (by kernel_rfl) Try.func5
    (OpenSpec.witness (enc := enc) (C := Try.checked) (s := Rows.OpenSpec.upto Rows.frameCutSpec) (k := Rows.uptoSmall) rfl false ⟨#[], #[.slice none 0 0, .int .u16 0], []⟩ 8 (by kernel_rfl) (by kernel_rfl) (by kernel_rfl)
      (x := ([.nil, .lit (.int .u16 0)], [], [])) (by kernel_rfl) rfl (by kernel_rfl)) ?_
  intro W base args ds gs before hval0 hW _ hk _
  have hval : ∀ (j : Nat) t v, Try.f5.params[j]? = some t → args[j]? = some v → Value.okWide Try.prog W .any base t v := hval0
  have hfin := fun W' => law_post (enc := enc) (P := Try.prog) (f := Try.f5) (s := Rows.frameCutSpec) (tb := 4) (W := W) (W' := W') (args := args) (ds := ds) (gs := gs) (before := before) laidOut rfl (by kernel_rfl) Try.underlying4 (by kernel_rfl) (fun xs h => by rw [Try.params5] at h; match xs, h with | [_, _], _ => rfl) hW
  have hlt : ∀ x ∈ before, x.block < W.heap.size := fun x hx => hW.lt x hx
  obtain ⟨p, q, hA0, hV, rfl, hfz, hnd⟩ := hW
  have hA : DataW.TrodAll enc Try.prog W 0 (fun _ => true) true Try.f5.params.toList args.toList ds p := hA0
  rw [Try.params5] at hA hval
  obtain ⟨v0, vs0, d0, ds0, p0, q0, hargs, rfl, rfl, h0, r0⟩ := trodAll_cons hA
  obtain ⟨v1, vs1, d1, ds1, p1, q1, rfl, rfl, rfl, h1, r1⟩ := trodAll_cons r0
  obtain ⟨rfl, rfl, rfl⟩ := trodAll_nil r1
  obtain rfl : args = #[v0, v1] := by cases args; simp_all
  obtain ⟨A0, cap0, l0, rfl, hl0, hm0, hB0, hQ0⟩ := open_bss (hval 0 31 v0 rfl rfl) h0 (fun x hx => hlt x (by simp [hx]))
  obtain ⟨a1, rfl, rfl, rfl, w1⟩ := open_int Try.underlying37 (hval 1 37 v1 rfl rfl) h1
  have b0 := Nat.le_trans (bulk_slice Try.underlying31 h0) (bulk_small hk d0 (by simp))
  refine (walk W A0 cap0 l0 hl0 hm0 hB0 hQ0 b0 a1 (bounds_u16 w1)).mono fun e W' ⟨he, hg⟩ => ?_
  subst he
  exact ⟨_, rfl, hfin W' hg⟩

theorem proved : Rows.FrameCutUptoSaid :=
  OpenClaim.holds_of_cond 5 Try.f5 rfl rfl rfl rfl rfl rfl rfl ⟨rfl, rfl, rfl, rfl, rfl⟩ rfl rfl rfl rfl rfl (by kernel_rfl) Try.func5 (by kernel_rfl)
    (of_decide_eq_true (by kernel_rfl)) (by unfold Func.isWrapper; first | (rw [if_pos (by decide +kernel)]; kernel_rfl) | (rw [if_neg (by decide +kernel)]; exact ⟨rfl, rfl⟩))
    (fun os started H enc _ G => lifted os started H enc G)
#print axioms proved
end Go.Proofs.Ytchfiekepjndeaa.frameCut
