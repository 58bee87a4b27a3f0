/-
  Layer 15, the developers' query: Fits: the closures that it asks in a row, allSo, the library's Contains: what they answer, of any entry and any Ask. Assumed: that the entry's services lie in memory.
-/
import Derived.Test.YtcoedohfggeaiaaQyA

namespace Go.Proofs.Ytcoedohfggeaiaa
open Go.RowKit Go.Maps En Qy
set_option maxRecDepth 100000

set_option maxHeartbeats 2000000 in
theorem index15_any (s : List UInt8) (sv : List (List UInt8)) (A : Option Addr) (n c : Nat) (w : World) (hn : sv.length = n) (h9 : n ≤ 9000) (hnc : n ≤ c) (hcm : c ≤ maxLen) (hA : Lies w A (strs sv)) :
    Calls Try.prog 31 #[.slice A n c, .string (str s)] w fun x w' => ∃ r : Int, x = .returned (.int .i64 r) ∧ (decide (0 ≤ r) = decide (s ∈ sv)) ∧ w' = w := by
  unfold maxLen at hcm
  have HL := Lib.hid hA
  have HN := Lib.hid hn
  have HBS := Lib.hid (fun (k : Nat) (hk : k < sv.length) => beq_str s sv[k])
  obtain ⟨Z, hZ⟩ : ∃ Z, str s = Z := ⟨_, rfl⟩
  simp only [hZ] at HBS ⊢
  clear hA hn hZ
  go_enter Try.func31, Try.ntmps31
  go_wp2
  go_loopw [8] (fun s8 wr => ∃ k : Nat, s8 = .int .i64 (k : Int) ∧ k ≤ n ∧ (s ∉ sv.take k) ∧ wr = w) (fun i _ => n - (intOf i).toNat)
  case atStart => exact ⟨0, rfl, Nat.zero_le _, by simp, rfl⟩
  case round =>
    obtain ⟨k, rfl, hk, hno, rfl⟩ := hrel
    have HNO := Lib.hid hno
    clear hno
    by_cases hlt : k < n
    · have hks : k < sv.length := by rw [HN.out]; exact hlt
      obtain ⟨ad, rfl, hadb, hcl⟩ := at_text HL.out k hks
      have y0 := hcl _ (Below.refl _ _)
      have hbs := HBS.out k hks
      have HT := Lib.hid (show sv.take (k + 1) = sv.take k ++ [sv[k]] from List.take_succ_eq_append_getElem hks)
      have HM := Lib.hid (show sv[k] ∈ sv from List.getElem_mem hks)
      clear hcl
      obtain ⟨x, hx⟩ : ∃ x, sv[k] = x := ⟨_, rfl⟩
      rw [hx] at y0 hbs HT HM
      clear hx
      obtain ⟨X, hX⟩ : ∃ X, str x = X := ⟨_, rfl⟩
      rw [hX] at y0 hbs
      clear hX
      obtain ⟨T, hT⟩ : ∃ T, decide (s = x) = T := ⟨_, rfl⟩
      rw [hT] at hbs
      have HTT := Lib.hid hT
      clear hT
      rcases T with _ | _
      · go_wp2
        go_roundw
        case rel =>
          refine ⟨k + 1, by go_num, by omega, ?_, by trivial⟩
          rw [HT.out, List.mem_append, List.mem_singleton]
          have := of_decide_eq_false HTT.out
          exact fun h => h.elim HNO.out this
        case measure => simp [intOf]; omega
      · go_wp2
        go_ret
        refine ⟨_, rfl, ?_, rfl⟩
        have := of_decide_eq_true HTT.out
        rw [decide_eq_true (by omega), decide_eq_true (by rw [this]; exact HM.out)]
    · obtain rfl : k = n := by omega
      have HE := Lib.hid (show s ∉ sv by have := HNO.out; rwa [List.take_of_length_le (by rw [HN.out]; omega)] at this)
      go_wp2
      go_ret
      exact ⟨_, rfl, by rw [decide_eq_false HE.out]; rfl, rfl⟩

set_option maxHeartbeats 1000000 in
theorem contains15_any (s : List UInt8) (sv : List (List UInt8)) (A : Option Addr) (n c : Nat) (w : World) (hn : sv.length = n) (h9 : n ≤ 9000) (hnc : n ≤ c) (hcm : c ≤ maxLen) (hA : Lies w A (strs sv)) :
    Calls Try.prog 22 #[.slice A n c, .string (str s)] w fun x w' => x = .returned (.bool (decide (s ∈ sv))) ∧ w' = w := by
  have HI := Lib.hid (index15_any s sv A n c w hn h9 hnc hcm hA)
  clear hn hA
  obtain ⟨Z, hZ⟩ : ∃ Z, str s = Z := ⟨_, rfl⟩
  rw [hZ] at HI ⊢
  clear hZ
  go_enter Try.func22, Try.ntmps22
  go_wp2_with fail
  refine HI.out.mono ?_
  rintro x w2 ⟨r, rfl, hr, rfl⟩
  go_wp2
  go_ret
  exact ⟨rfl, rfl⟩

section
variable {w : World} {gq ge : Nat} {a : Qy.A} {e : E} {A : Option Addr} {n c : Nat}
set_option maxHeartbeats 2000000 in
theorem fitsS15 (hq : BoxQ w gq a) (hE : BoxE w ge e (.slice A n c)) (hn : e.sv.length = n) (hS : Svs w e.sv A c) :
    Calls Try.prog 21 #[.pointer (some ⟨gq, 0, none⟩), .pointer (some ⟨ge, 0, none⟩)] w fun x w' => x = .returned (.bool (decide (a.sv = [] ∨ a.sv ∈ e.sv))) ∧ w' = w := by
  have h9 := hS.few
  rw [hn] at h9
  have hcm := hS.cap
  have hnc : n ≤ c := by rw [← hn]; exact hS.le
  have HC := Lib.hid (contains15_any a.sv e.sv A n c w hn h9 hnc hcm hS.lies)
  have hS0 := beq_nil a.sv
  obtain ⟨q0, -⟩ := hq.all
  obtain ⟨-, -, -, -, -, -, -, -, -, x9, -⟩ := hE.all
  clear hq hE hn hS
  obtain ⟨Z, hZ⟩ : ∃ Z, str a.sv = Z := ⟨_, rfl⟩
  rw [hZ] at HC hS0 q0
  clear hZ
  generalize e.sv = sv at *
  generalize a.sv = s at *
  by_cases h0 : s = []
  · rw [decide_eq_true h0] at hS0
    rw [decide_eq_true (show s = [] ∨ s ∈ sv from .inl h0)]
    clear h0
    go_enter Try.func21, Try.ntmps21
    go_wp2
    go_ret
    exact ⟨rfl, rfl⟩
  · rw [decide_eq_false h0] at hS0
    rw [show decide (s = [] ∨ s ∈ sv) = decide (s ∈ sv) by simp [h0]]
    clear h0
    generalize decide (s ∈ sv) = T at *
    go_enter Try.func21, Try.ntmps21
    go_wp2_with fail
    refine HC.out.mono ?_
    rintro x w2 ⟨rfl, rfl⟩
    go_wp2
    go_ret
    exact ⟨rfl, rfl⟩

set_option maxHeartbeats 2000000 in
theorem fitsT15 (hq : BoxQ w gq a) (hE : BoxE w ge e (.slice A n c)) :
    Calls Try.prog 23 #[.pointer (some ⟨ge, 0, none⟩), .pointer (some ⟨gq, 0, none⟩)] w fun x w' => x = .returned (.bool (decide (e.lo ≤ a.hi) && decide (a.lo ≤ e.hi))) ∧ w' = w := by
  obtain ⟨-, q1, q2, -⟩ := hq.all
  obtain ⟨-, -, -, -, -, -, x6, x7, -⟩ := hE.all
  clear hq hE
  generalize e.lo = elo at *
  generalize e.hi = ehi at *
  generalize a.lo = alo at *
  generalize a.hi = ahi at *
  obtain ⟨t1, h1⟩ : ∃ t, decide (elo ≤ ahi) = t := ⟨_, rfl⟩
  obtain ⟨t2, h2⟩ : ∃ t, decide (alo ≤ ehi) = t := ⟨_, rfl⟩
  rw [h1, h2]
  rcases t1 with _ | _
  all_goals
    go_enter Try.func23, Try.ntmps23
    go_wp2
    go_ret
    exact ⟨rfl, rfl⟩

set_option maxHeartbeats 2000000 in
theorem fitsC15 (hq : BoxQ w gq a) (hE : BoxE w ge e (.slice A n c)) :
    Calls Try.prog 24 #[.pointer (some ⟨gq, 0, none⟩), .pointer (some ⟨ge, 0, none⟩)] w fun x w' => x = .returned (.bool (decide (a.cl < 0) || (a.cl == e.cl))) ∧ w' = w := by
  obtain ⟨-, -, -, q3, -⟩ := hq.all
  obtain ⟨-, x1, -⟩ := hE.all
  clear hq hE
  generalize e.cl = ecl at *
  generalize a.cl = acl at *
  obtain ⟨t1, h1⟩ : ∃ t, decide (acl < 0) = t := ⟨_, rfl⟩
  obtain ⟨t2, h2⟩ : ∃ t, (acl == ecl) = t := ⟨_, rfl⟩
  rw [h1, h2]
  rcases t1 with _ | _
  all_goals
    go_enter Try.func24, Try.ntmps24
    go_wp2
    go_ret
    exact ⟨rfl, rfl⟩

set_option maxHeartbeats 4000000 in
theorem fitsB15 (hq : BoxQ w gq a) (hE : BoxE w ge e (.slice A n c)) :
    Calls Try.prog 25 #[.pointer (some ⟨ge, 0, none⟩), .pointer (some ⟨gq, 0, none⟩)] w fun x w' => x = .returned (.bool (decide (a.tk < e.tick) || ((e.tick == a.tk) && decide (a.id < e.id)))) ∧ w' = w := by
  obtain ⟨-, -, -, -, q4, q5, -⟩ := hq.all
  obtain ⟨x0, -, x2, -⟩ := hE.all
  clear hq hE
  generalize e.tick = eti at *
  generalize e.id = eid at *
  generalize a.tk = atk at *
  generalize a.id = aid at *
  obtain ⟨t1, h1⟩ : ∃ t, decide (atk < eti) = t := ⟨_, rfl⟩
  obtain ⟨t2, h2⟩ : ∃ t, (eti == atk) = t := ⟨_, rfl⟩
  obtain ⟨t3, h3⟩ : ∃ t, decide (aid < eid) = t := ⟨_, rfl⟩
  rw [h1, h2, h3]
  rcases t1 with _ | _ <;> rcases t2 with _ | _
  all_goals
    go_enter Try.func25, Try.ntmps25
    go_wp2
    go_ret
    exact ⟨rfl, rfl⟩
end

/-- a closure that caught two pointers -/
def fnQ (f p q : Nat) : Value := .func (.func f) #[] #[.pointer (some ⟨p, 0, none⟩), .pointer (some ⟨q, 0, none⟩)]
set_option maxHeartbeats 4000000 in
theorem allSo15_any (g ge gq : Nat) (b1 b2 b3 b4 : Bool) (w : World)
    (c0 : w.cell? ⟨g, 0, none⟩ = some (fnQ 21 gq ge)) (c1 : w.cell? ⟨g, 1, none⟩ = some (fnQ 23 ge gq))
    (c2 : w.cell? ⟨g, 2, none⟩ = some (fnQ 24 gq ge)) (c3 : w.cell? ⟨g, 3, none⟩ = some (fnQ 25 ge gq))
    (h1 : Calls Try.prog 21 #[.pointer (some ⟨gq, 0, none⟩), .pointer (some ⟨ge, 0, none⟩)] w fun x w' => x = .returned (.bool b1) ∧ w' = w)
    (h2 : Calls Try.prog 23 #[.pointer (some ⟨ge, 0, none⟩), .pointer (some ⟨gq, 0, none⟩)] w fun x w' => x = .returned (.bool b2) ∧ w' = w)
    (h3 : Calls Try.prog 24 #[.pointer (some ⟨gq, 0, none⟩), .pointer (some ⟨ge, 0, none⟩)] w fun x w' => x = .returned (.bool b3) ∧ w' = w)
    (h4 : Calls Try.prog 25 #[.pointer (some ⟨ge, 0, none⟩), .pointer (some ⟨gq, 0, none⟩)] w fun x w' => x = .returned (.bool b4) ∧ w' = w) :
    Calls Try.prog 26 #[.slice (some ⟨g, 0, none⟩) 4 4] w fun x w' => x = .returned (.bool (b1 && (b2 && (b3 && b4)))) ∧ w' = w := by
  have H1 := Lib.hid h1
  have H2 := Lib.hid h2
  have H3 := Lib.hid h3
  have H4 := Lib.hid h4
  unfold fnQ at c0 c1 c2 c3
  clear h1 h2 h3 h4
  go_enter Try.func26, Try.ntmps26
  go_wp2
  go_loopw [7] (fun s7 wr => ∃ k : Nat, s7 = .int .i64 (k : Int) ∧ k ≤ 4 ∧ (k ≤ 0 ∨ b1 = true) ∧ (k ≤ 1 ∨ b2 = true) ∧ (k ≤ 2 ∨ b3 = true) ∧ (k ≤ 3 ∨ b4 = true) ∧ wr = w) (fun i _ => 4 - (intOf i).toNat)
  case atStart => exact ⟨0, rfl, by omega, .inl (by omega), .inl (by omega), .inl (by omega), .inl (by omega), rfl⟩
  case round =>
    obtain ⟨k, rfl, hk, k1, k2, k3, k4, rfl⟩ := hrel
    obtain rfl | rfl | rfl | rfl | rfl : k = 0 ∨ k = 1 ∨ k = 2 ∨ k = 3 ∨ k = 4 := by omega
    · clear k1 k2 k3 k4
      go_wp2_with fail
      refine H1.out.mono ?_
      rintro x w2 ⟨rfl, rfl⟩
      rcases b1 with _ | _
      · go_wp2
        go_ret
        exact ⟨rfl, rfl⟩
      · go_wp2
        go_roundw
        case rel => exact ⟨1, by go_num, by omega, by simp, by simp, by simp, by simp, by trivial⟩
        case measure => simp [intOf]
    · obtain rfl : b1 = true := by simpa using k1
      clear k1 k2 k3 k4
      go_wp2_with fail
      refine H2.out.mono ?_
      rintro x w2 ⟨rfl, rfl⟩
      rcases b2 with _ | _
      · go_wp2
        go_ret
        exact ⟨rfl, rfl⟩
      · go_wp2
        go_roundw
        case rel => exact ⟨2, by go_num, by omega, by simp, by simp, by simp, by simp, by trivial⟩
        case measure => simp [intOf]
    · obtain rfl : b1 = true := by simpa using k1
      obtain rfl : b2 = true := by simpa using k2
      clear k1 k2 k3 k4
      go_wp2_with fail
      refine H3.out.mono ?_
      rintro x w2 ⟨rfl, rfl⟩
      rcases b3 with _ | _
      · go_wp2
        go_ret
        exact ⟨rfl, rfl⟩
      · go_wp2
        go_roundw
        case rel => exact ⟨3, by go_num, by omega, by simp, by simp, by simp, by simp, by trivial⟩
        case measure => simp [intOf]
    · obtain rfl : b1 = true := by simpa using k1
      obtain rfl : b2 = true := by simpa using k2
      obtain rfl : b3 = true := by simpa using k3
      clear k1 k2 k3 k4
      go_wp2_with fail
      refine H4.out.mono ?_
      rintro x w2 ⟨rfl, rfl⟩
      rcases b4 with _ | _
      · go_wp2
        go_ret
        exact ⟨rfl, rfl⟩
      · go_wp2
        go_roundw
        case rel => exact ⟨4, by go_num, by omega, by simp, by simp, by simp, by simp, by trivial⟩
        case measure => simp [intOf]
    · obtain rfl : b1 = true := by simpa using k1
      obtain rfl : b2 = true := by simpa using k2
      obtain rfl : b3 = true := by simpa using k3
      obtain rfl : b4 = true := by simpa using k4
      go_wp2
      go_ret
      exact ⟨rfl, rfl⟩

theorem fits_four (e : E) (a : Qy.A) : fits e a = (decide (a.sv = [] ∨ a.sv ∈ e.sv) && ((decide (e.lo ≤ a.hi) && decide (a.lo ≤ e.hi)) && ((decide (a.cl < 0) || (a.cl == e.cl)) && (decide (a.tk < e.tick) || ((e.tick == a.tk) && decide (a.id < e.id)))))) := by
  unfold fits fits0 past
  rw [Bool.eq_iff_iff]
  simp only [Bool.and_eq_true, Bool.or_eq_true, decide_eq_true_eq, beq_iff_eq]
  constructor
  · rintro ⟨⟨h1, h2, h3, h4⟩, h5⟩; exact ⟨h1, ⟨h2, h3⟩, h4.imp id Eq.symm, h5⟩
  · rintro ⟨h1, ⟨h2, h3⟩, h4, h5⟩; exact ⟨⟨h1, h2, h3, h4.imp id Eq.symm⟩, h5⟩

set_option maxHeartbeats 8000000 in
theorem fits15_any (e : E) (A : Option Addr) (n c : Nat) (a : Qy.A) (w : World) (hn : e.sv.length = n) (hS : Svs w e.sv A c) :
    Calls Try.prog 13 #[.agg (enA e (.slice A n c)), .agg (askA a)] w fun x w' => x = .returned (.bool (fits e a)) ∧ Below w.heap.size w w' := by
  have hb1 : Below w.heap.size w (w.alloc (.cells (enA e (.slice A n c)) 29)) := (Below.refl _ _).alloc (Nat.le_refl _) _
  have hx1 := BoxE.new w e (.slice A n c)
  obtain ⟨W1, hW1⟩ : ∃ W1, w.alloc (.cells (enA e (.slice A n c)) 29) = W1 := ⟨_, rfl⟩
  have hz1 : W1.heap.size = w.heap.size + 1 := by rw [← hW1]; simp
  rw [hW1] at hb1 hx1
  have hb2 : Below W1.heap.size W1 (W1.alloc (.cells (askA a) 31)) := (Below.refl _ _).alloc (Nat.le_refl _) _
  have hq2 := BoxQ.new W1 a
  obtain ⟨W2, hW2⟩ : ∃ W2, W1.alloc (.cells (askA a) 31) = W2 := ⟨_, rfl⟩
  have hz2 : W2.heap.size = w.heap.size + 1 + 1 := by rw [← hW2, ← hz1]; simp
  rw [hW2] at hb2 hq2
  have hx2 := BoxE.below hx1 hb2
  rw [hz1] at hq2
  have hb3 : Below W2.heap.size W2 (W2.alloc (.cells #[fnQ 21 (w.heap.size + 1) w.heap.size, fnQ 23 w.heap.size (w.heap.size + 1), fnQ 24 (w.heap.size + 1) w.heap.size, fnQ 25 w.heap.size (w.heap.size + 1)] 32)) := (Below.refl _ _).alloc (Nat.le_refl _) _
  have hl3 := Blk.new W2 #[fnQ 21 (w.heap.size + 1) w.heap.size, fnQ 23 w.heap.size (w.heap.size + 1), fnQ 24 (w.heap.size + 1) w.heap.size, fnQ 25 w.heap.size (w.heap.size + 1)] 32
  obtain ⟨W3, hW3⟩ : ∃ W3, W2.alloc (.cells #[fnQ 21 (w.heap.size + 1) w.heap.size, fnQ 23 w.heap.size (w.heap.size + 1), fnQ 24 (w.heap.size + 1) w.heap.size, fnQ 25 w.heap.size (w.heap.size + 1)] 32) = W3 := ⟨_, rfl⟩
  rw [hW3] at hb3 hl3
  rw [hz2] at hl3
  have hx3 := BoxE.below hx2 hb3
  have hq3 := BoxQ.below hq2 hb3
  have hB2 := hb1.trans (hb2.mono hb1.size)
  have hB3 := hB2.trans (hb3.mono hB2.size)
  have hS3 := hS.below hB3
  have HALL := Lib.hid (allSo15_any (w.heap.size + 1 + 1) w.heap.size (w.heap.size + 1) _ _ _ _ W3 (hl3.cell 0) (hl3.cell 1) (hl3.cell 2) (hl3.cell 3) (fitsS15 hq3 hx3 hn hS3) (fitsT15 hq3 hx3) (fitsC15 hq3 hx3) (fitsB15 hq3 hx3))
  rw [← fits_four] at HALL
  have HB3 := Lib.hid hB3
  generalize fits e a = D at *
  rw [← hW2, ← hW1] at hW3
  unfold fnQ at hW3
  unfold enA askA at hW3 ⊢
  have HW3 := Lib.hid hW3
  clear hW3 hW2 hW1 hb1 hx1 hb2 hq2 hx2 hb3 hl3 hx3 hq3 hB2 hB3 hS3 hS hn hz1 hz2
  go_enter Try.func13, Try.ntmps13
  go_wp2_with fail
  rw [HW3.out]
  refine HALL.out.mono ?_
  rintro x w2 ⟨rfl, rfl⟩
  go_wp2
  go_ret
  exact ⟨rfl, HB3.out⟩
end Go.Proofs.Ytcoedohfggeaiaa
