/-
  P12.2, FrameAll: for all bodies, and with something behind or not, the law returns true: frames, one behind the other, are all told, in order, with where they begin. No condition.
-/
import Derived.Test.YtchfiekepjndeaaOpB
namespace Go.Proofs.Ytchfiekepjndeaa.frameAll
open Go.ChangeShapes Go.WideShapes Go.ChangeAt Go.RowKit

theorem parts_append (p : Nat) (a b : List (List UInt8)) : Fra.parts p (a ++ b) = Fra.parts p a ++ Fra.parts (p + (Fra.row a).length) b := by
  induction a generalizing p with
  | nil => simp [Fra.parts, Fra.row]
  | cons x r ih =>
    have e : (Fra.row (x :: r)).length = Fra.size x.length + (Fra.row r).length := by simp [Fra.row, Fra.put_length]
    rw [List.cons_append, Fra.parts, Fra.parts, e]
    cases h : Fra.okb x
    · simp only [Bool.false_eq_true, if_false]
      rw [ih, Fra.size_no x h, Nat.zero_add]
    · simp only [if_true]
      rw [ih, List.cons_append, Nat.add_assoc]
/-- how many of the first ones are bodies, and how long their frames are -/
def kk (ls : List (List UInt8)) (i : Nat) : Nat := (Fra.parts 0 (ls.take i)).length
def aa (ls : List (List UInt8)) (i : Nat) : Nat := (Fra.row (ls.take i)).length
theorem step (ls : List (List UInt8)) (i : Nat) (h : i < ls.length) :
    (Fra.okb ls[i] = false → kk ls (i + 1) = kk ls i ∧ aa ls (i + 1) = aa ls i) ∧
    (Fra.okb ls[i] = true → kk ls (i + 1) = kk ls i + 1 ∧ aa ls (i + 1) = aa ls i + Fra.size ls[i].length ∧ ∃ hk : kk ls i < (Fra.parts 0 ls).length, (Fra.parts 0 ls)[kk ls i] = ⟨aa ls i, ls[i]⟩) := by
  have e1 : ls.take (i + 1) = ls.take i ++ [ls[i]] := List.take_succ_eq_append_getElem h
  have e2 : Fra.row (ls.take (i + 1)) = Fra.row (ls.take i) ++ Fra.put ls[i] := by rw [e1, Fra.row_snoc]
  have e3 : Fra.parts 0 (ls.take (i + 1)) = Fra.parts 0 (ls.take i) ++ Fra.parts (0 + (Fra.row (ls.take i)).length) [ls[i]] := by rw [e1, parts_append]
  refine ⟨fun hno => ?_, fun hyes => ?_⟩
  · unfold kk aa
    rw [e3, e2, Fra.put_no _ hno]
    simp [Fra.parts, hno]
  · refine ⟨?_, ?_, ?_⟩
    · unfold kk
      rw [e3]
      simp [Fra.parts, hyes]
    · unfold aa
      rw [e2, List.length_append, Fra.put_length]
    · have e4 : Fra.parts 0 ls = Fra.parts 0 (ls.take i) ++ ⟨aa ls i, ls[i]⟩ :: Fra.parts (aa ls i + Fra.size ls[i].length) (ls.drop (i + 1)) := by
        conv => lhs; rw [← List.take_append_drop i ls, List.drop_eq_getElem_cons h, parts_append]
        rw [Fra.parts, if_pos hyes]
        simp [aa]
      have hlt : kk ls i < (Fra.parts 0 ls).length := by
        rw [e4, List.length_append, List.length_cons]
        unfold kk
        omega
      refine ⟨hlt, ?_⟩
      simp only [e4]
      unfold kk
      rw [List.getElem_append_right (Nat.le_refl _)]
      simp
theorem row_le (ls : List (List UInt8)) : (Fra.row ls).length ≤ 3607 * ls.length := by
  induction ls with
  | nil => simp [Fra.row]
  | cons x r ih =>
    have e : (Fra.row (x :: r)).length = Fra.size x.length + (Fra.row r).length := by simp [Fra.row, Fra.put_length]
    have := Fra.size_small (x.length : Int)
    rw [e, List.length_cons]
    omega
theorem aa_le (ls : List (List UInt8)) (i : Nat) : aa ls i ≤ 3607 * ls.length := by
  have h := row_le (ls.take i)
  have h2 : (ls.take i).length ≤ ls.length := by rw [List.length_take]; omega
  unfold aa
  omega
theorem kk_le (ls : List (List UInt8)) (i : Nat) : kk ls i ≤ ls.length := by
  have key : ∀ (p : Nat) (m : List (List UInt8)), (Fra.parts p m).length ≤ m.length := by
    intro p m
    induction m generalizing p with
    | nil => simp [Fra.parts]
    | cons x r ih =>
      unfold Fra.parts
      split
      · have := ih (p + Fra.size x.length); simp; exact this
      · have := ih p; simp; omega
  have h := key 0 (ls.take i)
  have h2 : (ls.take i).length ≤ ls.length := by rw [List.length_take]; omega
  unfold kk
  omega

set_option maxHeartbeats 8000000 in
set_option maxRecDepth 100000 in
theorem walkN (w : World) (A : Option Addr) (n cap : Nat) (l : List Bs) (hn : l.length = n) (hm : n ≤ maxLen) (hA : Lies w A (flatB l)) (hQ : ∀ x ∈ l, BsIn w x) (zero : Bool) :
    Calls Try.prog 4 #[.slice A n cap, .bool zero] w fun e w' => e = .returned (.bool true) ∧ Below w.heap.size w w' := by
  obtain ⟨i0, hi, hz0, hz1, hz2⟩ := info_parts infoU8
  have HN := Lib.hid hn
  have HA := Lib.hid hA
  have HQ := Lib.hid hQ
  clear hn hA hQ
  go_enter Try.func4, Try.ntmps4
  go_wp2_with fail
  refine (head12_any w).mono ?_
  rintro e w1 ⟨rfl, c1⟩
  have HC1 := Lib.hid c1
  clear c1
  go_wp2_with fail
  refine (great12_any A n cap l w1 HN.out hm (HA.out.below HC1.out)).mono ?_
  rintro e w2 ⟨r, rfl, hr, rfl⟩
  rcases r with _ | _
  rotate_left
  · go_wp2
    go_ret
    exact ⟨rfl, HC1.out⟩
  obtain ⟨hn2, -⟩ := hr rfl
  rw [HN.out] at hn2
  obtain ⟨ls, hls⟩ : ∃ ls, l.map (·.bs) = ls := ⟨_, rfl⟩
  have hlsl : ls.length = n := by rw [← hls, List.length_map, HN.out]
  have hrow := row_le ls
  have HAA := Lib.hid (aa_le ls)
  have HKK := Lib.hid (kk_le ls)
  rw [hlsl] at hrow HAA HKK
  have HP := Lib.hid (put12_any A n cap l w1 HN.out (by omega) (HA.out.below HC1.out) (fun x hx => (HQ.out x hx).below HC1.out) (by rw [hls]; omega))
  rw [hls] at HP
  have HLS := Lib.hid hls
  have HLL := Lib.hid hlsl
  clear hls hlsl
  have HRA := Lib.hid (show aa ls n = (Fra.row ls).length by unfold aa; rw [← HLL.out, List.take_length])
  have HRK := Lib.hid (show kk ls n = (Fra.parts 0 ls).length by unfold kk; rw [← HLL.out, List.take_length])
  have HALL := Lib.hid (fun c h => Fra.all_row ls c h)
  go_wp2_with fail
  refine HP.out.mono ?_
  rintro e w3 ⟨vb, rfl, ho3, c3⟩
  obtain ⟨A3, c3', rfl, hl3, hm3, -, hL3⟩ := own_form ho3
  have HO3 := Lib.hid ho3
  have HL3 := Lib.hid hL3
  have HC3 := Lib.hid (HC1.out.trans (c3.mono HC1.out.size))
  have HB3 := Lib.hid c3
  clear ho3 hL3 c3 HP
  generalize hR : (Fra.row ls).length = R at *
  have HR := Lib.hid hR
  clear hR
  rcases zero with _ | _
  · have HF := Lib.hid (fall_any A3 R c3' (Fra.row ls ++ []) w3 (by rw [List.append_nil]; exact HR.out) (by omega) hl3 hm3 (by rw [List.append_nil]; exact HL3.out))
    rw [(HALL.out [] rfl).1, (HALL.out [] rfl).2] at HF
    go_wp2_with fail
    refine HF.out.mono ?_
    rintro e w6 ⟨v6, rfl, L, hL, hRow, c6⟩
    obtain ⟨A6, c6', rfl, -, -, hRd⟩ := hRow.read
    have HR6 := Lib.hid hRd
    have HC6 := Lib.hid (HC3.out.trans (c6.mono HC3.out.size))
    have HL6 := Lib.hid hL
    clear hRow hRd c6 hL HF HO3 HL3 HB3 HC3
    obtain ⟨q, hq⟩ : ∃ q, L.length = q := ⟨_, rfl⟩
    have hqp : (Fra.parts 0 ls).length = q := by rw [← HL6.out, List.length_map, hq]
    have HQP := Lib.hid hqp
    have HQL := Lib.hid hq
    have hqn : q ≤ n := by rw [← hqp, ← HRK.out]; exact HKK.out n
    rw [hq]
    clear hq hqp
    go_wp2_with fail
    go_loopw [10, 11, 12] (fun vk va vi wr => ∃ i : Nat, vi = .int .i64 i ∧ i ≤ n ∧ vk = .int .i64 (kk ls i : Int) ∧ va = .int .i64 (aa ls i : Int) ∧ Below w6.heap.size w6 wr) (fun _ _ vi _ => n - (intOf vi).toNat)
    case atStart => exact ⟨0, rfl, Nat.zero_le _, rfl, rfl, Below.refl _ _⟩
    case round =>
      obtain ⟨i, rfl, hi, rfl, rfl, hbr⟩ := hrel
      have HBR := Lib.hid hbr
      clear hbr
      have hki := HKK.out i
      have hai := HAA.out i
      by_cases hlt : i < n
      · have hil : i < l.length := by rw [HN.out]; exact hlt
        have hils : i < ls.length := by rw [HLL.out]; exact hlt
        obtain ⟨hst1, hst2⟩ := step ls i hils
        have hlb : l[i].bs = ls[i] := by
          have h := congrArg (fun m => m[i]?) HLS.out
          simpa [hil, hils] using h
        have hBW := HC6.out.trans (HBR.out.mono HC6.out.size)
        obtain ⟨ad, rfl, hadb, hc⟩ := at_bs HA.out i hil
        have hx := HQ.out l[i] (List.getElem_mem hil)
        have y0 := hc wr hBW
        rw [hlb] at y0
        have HBC := Lib.hid (fun (u : World) (h : Below wr.heap.size wr u) => hc u (hBW.trans (h.mono hBW.size)))
        rw [hlb] at HBC
        have hxl := hx.2.2.below hBW
        rw [hlb] at hxl
        have HXL := Lib.hid hxl
        have HBW := Lib.hid hBW
        have HS1 := Lib.hid hst1
        have HS2 := Lib.hid hst2
        clear hst1 hst2 hc hx hxl hlb hBW
        generalize l[i].A = A1 at *
        generalize l[i].cap = cp1 at *
        generalize ls[i] = b at *
        obtain ⟨m, hm1⟩ : ∃ m, b.length = m := ⟨_, rfl⟩
        rw [hm1] at y0 HBC HS2
        have HM := Lib.hid hm1
        clear hm1
        by_cases hok : 1 ≤ m ∧ m ≤ 3600
        · have hokb : Fra.okb b = true := by unfold Fra.okb; rw [HM.out]; simpa using hok
          obtain ⟨hk1, ha1, hkq, hpk⟩ := HS2.out hokb
          have hkL : kk ls i < L.length := by rw [HQL.out, ← HQP.out]; exact hkq
          have hL1 : L[kk ls i].1 = ⟨aa ls i, b⟩ := by
            rw [← hpk]
            have h := congrArg (fun m => m[kk ls i]?) HL6.out
            simp only [List.getElem?_map, List.getElem?_eq_getElem hkL, List.getElem?_eq_getElem hkq, Option.map_some, Option.some.injEq] at h
            exact h
          obtain ⟨pd, rfl, hpdb, hpc⟩ := at_part HR6.out.1 (kk ls i) hkL
          obtain ⟨B1, d1, e1, hlB⟩ := HR6.out.2 L[kk ls i] (List.getElem_mem hkL)
          rw [hL1] at e1 hlB hpc
          rw [e1] at hpc
          have hszb : (⟨aa ls i, b⟩ : Fra.P).sz = Fra.size (m : Int) := by rw [← HM.out]; rfl
          rw [hszb] at hpc
          have hmB : b.length = m := HM.out
          simp only [hmB] at hpc
          have HPC := Lib.hid hpc
          have HLB := Lib.hid hlB
          have HP := Lib.hid (fput_any A1 m cp1 b wr HM.out HXL.out)
          have hpl := Fra.put_length b
          rw [HM.out] at hpl
          have HPL := Lib.hid hpl
          have HZ := Lib.hid (fun W => fsize_any (m : Int) W)
          have hsz := Fra.size_small (m : Int)
          have hok1 := hok.1
          have hok2 := hok.2
          have hdl1 : decide ((m : Int) < 1) = false := by simp; omega
          have hdl2 : decide ((3600 : Int) < (m : Int)) = false := by simp; omega
          have hkqi : kk ls i < q := by rw [← HQP.out]; exact hkq
          have HK1 := Lib.hid hk1
          have HA1 := Lib.hid ha1
          clear hpc hlB hpl hszb e1 hL1 hkL hkq hpk hk1 ha1 hmB hok
          generalize hK : kk ls i = K at *
          generalize hAA : aa ls i = aI at *
          generalize Fra.size (m : Int) = sz at *
          generalize Fra.put b = pb at *
          have dK : decide ((q : Int) ≤ (K : Int)) = false := by simp; omega
          clear hK hAA
          go_wp2_with fail
          refine HP.out.mono ?_
          rintro e w7 ⟨v7, rfl, ho7, c7⟩
          obtain ⟨A7, c7', rfl, -, -, -, -⟩ := own_form ho7
          rw [HPL.out]
          have y7 := HBC.out w7 c7
          have hB7 := HBR.out.trans (c7.mono HBR.out.size)
          obtain ⟨x0, x1, x2⟩ := HPC.out w7 hB7
          have hcv1 := fun q => conv_str (P := Try.prog) (w := w7.drewN q) (c := d1) ((HLB.out.below hB7).many q) 22 5 Try.underlying22 Try.underlying5 9 Try.underlying9
          have hcv2 := fun q => conv_str (P := Try.prog) (w := w7.drewN q) (c := cp1) ((HXL.out.below c7).many q) 22 5 Try.underlying22 Try.underlying5 9 Try.underlying9
          rw [HM.out] at hcv1 hcv2
          generalize str b = Sb at *
          have hne := fun W => neq_same W Sb
          have HB7 := Lib.hid hB7
          clear ho7 c7 hB7
          go_wp2
          go_quiet ((go_at_call 13; refine Calls.quiet_of_same ((HZ.out _).mono (fun _ _ hh => ⟨hh.1, hh.2.symm⟩))))
          go_wp2
          go_roundw
          case rel => exact ⟨i + 1, by go_num, by omega, by rw [HK1.out]; go_num, by rw [HA1.out]; go_num, below_many HB7.out _⟩
          case measure => simp [intOf]; omega
        · have hokb : Fra.okb b = false := by unfold Fra.okb; rw [HM.out]; simpa using hok
          obtain ⟨hk1, ha1⟩ := HS1.out hokb
          have HK1 := Lib.hid hk1
          have HA1 := Lib.hid ha1
          clear hk1 ha1
          by_cases h1 : m < 1
          · have hdl1 : decide ((m : Int) < 1) = true := by simp; omega
            go_wp2
            go_roundw
            case rel => exact ⟨i + 1, by go_num, by omega, by rw [HK1.out], by rw [HA1.out], HBR.out⟩
            case measure => simp [intOf]; omega
          · have hdl1 : decide ((m : Int) < 1) = false := by simp; omega
            have hdl2 : decide ((3600 : Int) < (m : Int)) = true := by simp; omega
            go_wp2
            go_roundw
            case rel => exact ⟨i + 1, by go_num, by omega, by rw [HK1.out], by rw [HA1.out], HBR.out⟩
            case measure => simp [intOf]; omega
      · obtain rfl : i = n := by omega
        have e1 : kk ls i = q := by rw [HRK.out, HQP.out]
        have e2 : aa ls i = R := HRA.out
        rw [e1, e2]
        have HE := Lib.hid (HC6.out.trans (HBR.out.mono HC6.out.size))
        clear e1 e2
        go_wp2
        go_ret
        exact ⟨rfl, HE.out⟩
  · go_wp2_with (at_builtin; refine wpList_app rfl _ _ 22 rfl w1.heap.size 5 i0 (.int .u8 0) Try.underlying22 hi hz0 hz1 hz2 rfl (.slice A3 R c3') R (cells (Fra.row ls)) rfl ?a1 (some ⟨w3.heap.size, 0, none⟩) 2 2 [.int .u8 0, .int .u8 7] rfl rfl ?a2 ?a3 ?a4 ?a5 ?a6)
    case a1 => exact HO3.out.alloc _
    case a2 => exact Lies.new w3 #[.int .u8 0, .int .u8 7] 5
    case a3 => simp [Value.oneCell']
    case a4 => omega
    case a5 => have := HB3.out.size; simp; omega
    case a6 =>
    intro v5 w5 ho5 hg5 _
    have hb5 : Below w1.heap.size w1 w5 := (HB3.out.alloc HB3.out.size _).grown hg5 (by have := HB3.out.size; simp; omega) (fun g hg => (HO3.out.lt g hg).1)
    have ho5' : w5.ownsRow w1.heap.size 5 1 v5 (R + 2) (cells (Fra.row ls ++ [0, 7])) := by rw [cells_append]; exact ho5
    obtain ⟨A5, c5', rfl, hl5, hm5, -, hL5⟩ := own_form ho5'
    have HC5 := Lib.hid (HC1.out.trans (hb5.mono HC1.out.size))
    have HF := Lib.hid (fall_any A5 (R + 2) c5' (Fra.row ls ++ [0, 7]) w5 (by rw [List.length_append, HR.out]; rfl) (by omega) hl5 hm5 hL5)
    rw [(HALL.out [0, 7] (Fra.first_zero _)).1, (HALL.out [0, 7] (Fra.first_zero _)).2] at HF
    clear ho5 ho5' hg5 hb5 hL5
    go_wp2_with fail
    refine HF.out.mono ?_
    rintro e w6 ⟨v6, rfl, L, hL, hRow, c6⟩
    obtain ⟨A6, c6', rfl, -, -, hRd⟩ := hRow.read
    have HR6 := Lib.hid hRd
    have HC6 := Lib.hid (HC5.out.trans (c6.mono HC5.out.size))
    have HL6 := Lib.hid hL
    clear hRow hRd c6 hL HF HO3 HL3 HB3 HC3 HC5
    obtain ⟨q, hq⟩ : ∃ q, L.length = q := ⟨_, rfl⟩
    have hqp : (Fra.parts 0 ls).length = q := by rw [← HL6.out, List.length_map, hq]
    have HQP := Lib.hid hqp
    have HQL := Lib.hid hq
    have hqn : q ≤ n := by rw [← hqp, ← HRK.out]; exact HKK.out n
    rw [hq]
    clear hq hqp
    go_wp2_with fail
    go_loopw [10, 11, 12] (fun vk va vi wr => ∃ i : Nat, vi = .int .i64 i ∧ i ≤ n ∧ vk = .int .i64 (kk ls i : Int) ∧ va = .int .i64 (aa ls i : Int) ∧ Below w6.heap.size w6 wr) (fun _ _ vi _ => n - (intOf vi).toNat)
    case atStart => exact ⟨0, rfl, Nat.zero_le _, rfl, rfl, Below.refl _ _⟩
    case round =>
      obtain ⟨i, rfl, hi, rfl, rfl, hbr⟩ := hrel
      have HBR := Lib.hid hbr
      clear hbr
      have hki := HKK.out i
      have hai := HAA.out i
      by_cases hlt : i < n
      · have hil : i < l.length := by rw [HN.out]; exact hlt
        have hils : i < ls.length := by rw [HLL.out]; exact hlt
        obtain ⟨hst1, hst2⟩ := step ls i hils
        have hlb : l[i].bs = ls[i] := by
          have h := congrArg (fun m => m[i]?) HLS.out
          simpa [hil, hils] using h
        have hBW := HC6.out.trans (HBR.out.mono HC6.out.size)
        obtain ⟨ad, rfl, hadb, hc⟩ := at_bs HA.out i hil
        have hx := HQ.out l[i] (List.getElem_mem hil)
        have y0 := hc wr hBW
        rw [hlb] at y0
        have HBC := Lib.hid (fun (u : World) (h : Below wr.heap.size wr u) => hc u (hBW.trans (h.mono hBW.size)))
        rw [hlb] at HBC
        have hxl := hx.2.2.below hBW
        rw [hlb] at hxl
        have HXL := Lib.hid hxl
        have HBW := Lib.hid hBW
        have HS1 := Lib.hid hst1
        have HS2 := Lib.hid hst2
        clear hst1 hst2 hc hx hxl hlb hBW
        generalize l[i].A = A1 at *
        generalize l[i].cap = cp1 at *
        generalize ls[i] = b at *
        obtain ⟨m, hm1⟩ : ∃ m, b.length = m := ⟨_, rfl⟩
        rw [hm1] at y0 HBC HS2
        have HM := Lib.hid hm1
        clear hm1
        by_cases hok : 1 ≤ m ∧ m ≤ 3600
        · have hokb : Fra.okb b = true := by unfold Fra.okb; rw [HM.out]; simpa using hok
          obtain ⟨hk1, ha1, hkq, hpk⟩ := HS2.out hokb
          have hkL : kk ls i < L.length := by rw [HQL.out, ← HQP.out]; exact hkq
          have hL1 : L[kk ls i].1 = ⟨aa ls i, b⟩ := by
            rw [← hpk]
            have h := congrArg (fun m => m[kk ls i]?) HL6.out
            simp only [List.getElem?_map, List.getElem?_eq_getElem hkL, List.getElem?_eq_getElem hkq, Option.map_some, Option.some.injEq] at h
            exact h
          obtain ⟨pd, rfl, hpdb, hpc⟩ := at_part HR6.out.1 (kk ls i) hkL
          obtain ⟨B1, d1, e1, hlB⟩ := HR6.out.2 L[kk ls i] (List.getElem_mem hkL)
          rw [hL1] at e1 hlB hpc
          rw [e1] at hpc
          have hszb : (⟨aa ls i, b⟩ : Fra.P).sz = Fra.size (m : Int) := by rw [← HM.out]; rfl
          rw [hszb] at hpc
          have hmB : b.length = m := HM.out
          simp only [hmB] at hpc
          have HPC := Lib.hid hpc
          have HLB := Lib.hid hlB
          have HP := Lib.hid (fput_any A1 m cp1 b wr HM.out HXL.out)
          have hpl := Fra.put_length b
          rw [HM.out] at hpl
          have HPL := Lib.hid hpl
          have HZ := Lib.hid (fun W => fsize_any (m : Int) W)
          have hsz := Fra.size_small (m : Int)
          have hok1 := hok.1
          have hok2 := hok.2
          have hdl1 : decide ((m : Int) < 1) = false := by simp; omega
          have hdl2 : decide ((3600 : Int) < (m : Int)) = false := by simp; omega
          have hkqi : kk ls i < q := by rw [← HQP.out]; exact hkq
          have HK1 := Lib.hid hk1
          have HA1 := Lib.hid ha1
          clear hpc hlB hpl hszb e1 hL1 hkL hkq hpk hk1 ha1 hmB hok
          generalize hK : kk ls i = K at *
          generalize hAA : aa ls i = aI at *
          generalize Fra.size (m : Int) = sz at *
          generalize Fra.put b = pb at *
          have dK : decide ((q : Int) ≤ (K : Int)) = false := by simp; omega
          clear hK hAA
          go_wp2_with fail
          refine HP.out.mono ?_
          rintro e w7 ⟨v7, rfl, ho7, c7⟩
          obtain ⟨A7, c7', rfl, -, -, -, -⟩ := own_form ho7
          rw [HPL.out]
          have y7 := HBC.out w7 c7
          have hB7 := HBR.out.trans (c7.mono HBR.out.size)
          obtain ⟨x0, x1, x2⟩ := HPC.out w7 hB7
          have hcv1 := fun q => conv_str (P := Try.prog) (w := w7.drewN q) (c := d1) ((HLB.out.below hB7).many q) 22 5 Try.underlying22 Try.underlying5 9 Try.underlying9
          have hcv2 := fun q => conv_str (P := Try.prog) (w := w7.drewN q) (c := cp1) ((HXL.out.below c7).many q) 22 5 Try.underlying22 Try.underlying5 9 Try.underlying9
          rw [HM.out] at hcv1 hcv2
          generalize str b = Sb at *
          have hne := fun W => neq_same W Sb
          have HB7 := Lib.hid hB7
          clear ho7 c7 hB7
          go_wp2
          go_quiet ((go_at_call 13; refine Calls.quiet_of_same ((HZ.out _).mono (fun _ _ hh => ⟨hh.1, hh.2.symm⟩))))
          go_wp2
          go_roundw
          case rel => exact ⟨i + 1, by go_num, by omega, by rw [HK1.out]; go_num, by rw [HA1.out]; go_num, below_many HB7.out _⟩
          case measure => simp [intOf]; omega
        · have hokb : Fra.okb b = false := by unfold Fra.okb; rw [HM.out]; simpa using hok
          obtain ⟨hk1, ha1⟩ := HS1.out hokb
          have HK1 := Lib.hid hk1
          have HA1 := Lib.hid ha1
          clear hk1 ha1
          by_cases h1 : m < 1
          · have hdl1 : decide ((m : Int) < 1) = true := by simp; omega
            go_wp2
            go_roundw
            case rel => exact ⟨i + 1, by go_num, by omega, by rw [HK1.out], by rw [HA1.out], HBR.out⟩
            case measure => simp [intOf]; omega
          · have hdl1 : decide ((m : Int) < 1) = false := by simp; omega
            have hdl2 : decide ((3600 : Int) < (m : Int)) = true := by simp; omega
            go_wp2
            go_roundw
            case rel => exact ⟨i + 1, by go_num, by omega, by rw [HK1.out], by rw [HA1.out], HBR.out⟩
            case measure => simp [intOf]; omega
      · obtain rfl : i = n := by omega
        have e1 : kk ls i = q := by rw [HRK.out, HQP.out]
        have e2 : aa ls i = R := HRA.out
        rw [e1, e2]
        have HE := Lib.hid (HC6.out.trans (HBR.out.mono HC6.out.size))
        clear e1 e2
        go_wp2
        go_ret
        exact ⟨rfl, HE.out⟩

theorem walk (w : World) (A : Option Addr) (cap : Nat) (l : List Bs) (hl : l.length ≤ cap) (hm : cap ≤ maxLen) (hA : Lies w A (flatB l)) (hQ : ∀ x ∈ l, BsIn w x) (zero : Bool) :
    Calls Try.prog 4 #[.slice A l.length cap, .bool zero] w fun e w' => e = .returned (.bool true) ∧ Below w.heap.size w w' :=
  walkN w A l.length cap l rfl (Nat.le_trans hl hm) hA hQ zero


set_option maxRecDepth 100000 in
theorem lifted (os : Os) (started : os.Started) (H : Type) (enc : TypeId × Value → H) :
    ReturnsInHanded {} Try.checked os 4 .any (Rows.frameAllSpec.pre6 enc Try.prog Try.f4 Rows.frameAllRow.domain false) (Rows.frameAllSpec.post enc Try.prog Try.f4 false true false false) := by
  refine returnsInHanded_of_change (C := Try.checked) own started (by kernel_rfl) Try.func4
    (ChangeSpec.witness6 (enc := enc) (C := Try.checked) false ⟨#[], #[.slice none 0 0, .bool false], []⟩ 8 (by kernel_rfl) (by kernel_rfl) (by kernel_rfl) (by kernel_rfl)) ?_
  intro W base args ds gs before hval0 hW hcnd _
  have hval : ∀ (j : Nat) t v, Try.f4.params[j]? = some t → args[j]? = some v → Value.okWide Try.prog W .any base t v := hval0
  have hfin := fun W' => law_post (enc := enc) (P := Try.prog) (f := Try.f4) (s := Rows.frameAllSpec) (tb := 4) (W := W) (W' := W') (args := args) (ds := ds) (gs := gs) (before := before) laidOut rfl (by kernel_rfl) Try.underlying4 (by kernel_rfl) (fun xs h => by rw [Try.params4] at h; match xs, h with | [_, _], _ => rfl) hW
  have hlt : ∀ x ∈ before, x.block < W.heap.size := fun x hx => hW.lt x hx
  obtain ⟨p, q, hA0, hV, rfl, hfz, hnd⟩ := hW
  have hA : DataW.TrodAll enc Try.prog W 0 (fun _ => true) true Try.f4.params.toList args.toList ds p := hA0
  rw [Try.params4] at hA hval
  obtain ⟨v0, vs0, d0, ds0, p0, q0, hargs, rfl, rfl, h0, r0⟩ := trodAll_cons hA
  obtain ⟨v1, vs1, d1, ds1, p1, q1, rfl, rfl, rfl, h1, r1⟩ := trodAll_cons r0
  obtain ⟨rfl, rfl, rfl⟩ := trodAll_nil r1
  obtain rfl : args = #[v0, v1] := by cases args; simp_all
  obtain ⟨A0, cap0, l0, rfl, hl0, hm0, hB0, hQ0⟩ := open_bss (hval 0 31 v0 rfl rfl) h0 (fun x hx => hlt x (by simp [hx]))
  obtain ⟨a1, rfl, rfl, rfl⟩ := open_bool Try.underlying4 (hval 1 4 v1 rfl rfl) h1
  refine (walk W A0 cap0 l0 hl0 hm0 hB0 hQ0 a1).mono fun e W' ⟨he, hg⟩ => ?_
  subst he
  exact ⟨_, rfl, hfin W' hg⟩

theorem proved : Rows.FrameAllSaid :=
  OpenClaim.holds_of_wide 4 Try.f4 rfl rfl rfl rfl rfl rfl rfl ⟨rfl, rfl, rfl, rfl, rfl⟩ rfl rfl rfl rfl rfl (by kernel_rfl) Try.func4 (by kernel_rfl)
    (of_decide_eq_true (by kernel_rfl)) (by unfold Func.isWrapper; first | (rw [if_pos (by decide +kernel)]; kernel_rfl) | (rw [if_neg (by decide +kernel)]; exact ⟨rfl, rfl⟩))
    (fun os started H enc _ => lifted os started H enc)
#print axioms proved
end Go.Proofs.Ytchfiekepjndeaa.frameAll
