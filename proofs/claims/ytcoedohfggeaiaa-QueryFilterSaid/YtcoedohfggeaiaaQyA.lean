/-
  Layer 15: an Ask in memory; turntableref15.Fits: what it answers, of any entry and any Ask. Assumed: that the entry's services lie in memory. (Made by gen15/qya.py.)
-/
import Derived.Test.YtcoedohfggeaiaaMath15
import Derived.Test.YtcoedohfggeaiaaLwR
import Derived.Test.YtcoedohfggeaiaaOpF
import Derived.BigQuiet

namespace Go.Proofs.Ytcoedohfggeaiaa
open Go.RowKit Go.Maps En Qy
set_option maxRecDepth 100000

/-- an Ask's cells -/
def askA (a : Qy.A) : Array Value := #[.string (str a.sv), .int .i64 a.lo, .int .i64 a.hi, .int .i64 a.cl, .int .i64 a.tk, .int .i64 a.id, .int .i64 a.lim]
theorem askA_one (a : Qy.A) : ∀ u ∈ (askA a).toList, u.oneCell' = true := by
  intro u hu
  simp only [askA, List.mem_cons, List.not_mem_nil, or_false] at hu
  rcases hu with rfl | rfl | rfl | rfl | rfl | rfl | rfl <;> rfl
theorem infoAsk : (Try.prog.info? 31).map (fun i => (i.zero, i.size)) = some (some (.agg (askA Qy.A.zero)), 7) := by kernel_rfl
/-- a block that is an Ask -/
abbrev BoxQ (w : World) (g : Nat) (a : Qy.A) : Prop := Blk w g (askA a) 31
theorem BoxQ.new (w : World) (a : Qy.A) : BoxQ (w.alloc (.cells (askA a) 31)) w.heap.size a := Blk.new w _ _
theorem BoxQ.below {w w' : World} {g : Nat} {a : Qy.A} (h : BoxQ w g a) (hb : Below w.heap.size w w') : BoxQ w' g a := (hb.block g h.lt).trans h
theorem BoxQ.all {w : World} {g : Nat} {a : Qy.A} (h : BoxQ w g a) : w.cell? ⟨g, 0, none⟩ = some (.string (str a.sv)) ∧ w.cell? ⟨g, 1, none⟩ = some (.int .i64 a.lo) ∧ w.cell? ⟨g, 2, none⟩ = some (.int .i64 a.hi) ∧ w.cell? ⟨g, 3, none⟩ = some (.int .i64 a.cl) ∧ w.cell? ⟨g, 4, none⟩ = some (.int .i64 a.tk) ∧ w.cell? ⟨g, 5, none⟩ = some (.int .i64 a.id) ∧ w.cell? ⟨g, 6, none⟩ = some (.int .i64 a.lim) :=
  ⟨h.cell 0, h.cell 1, h.cell 2, h.cell 3, h.cell 4, h.cell 5, h.cell 6⟩
/-- whole, loaded out of its box -/
theorem run_loadAsk (w : World) (g : Nat) (a : Qy.A) (h : BoxQ w g a) : (Instr.loadAt 31 (.pointer (some ⟨g, 0, none⟩))).run Try.prog w = .ok (.agg (askA a)) w := by
  obtain ⟨c0, c1, c2, c3, c4, c5, c6⟩ := h.all
  clear h
  unfold askA
  go_simp
theorem beq_nil (s : List UInt8) : (str s).toList.isEmpty = decide (s = []) := by
  rw [str_toList]; cases s <;> simp

set_option maxHeartbeats 8000000 in
theorem rfits15_any (e : E) (A : Option Addr) (n c : Nat) (a : Qy.A) (w : World) (hn : e.sv.length = n) (hS : Svs w e.sv A c) :
    Calls Try.prog 14 #[.agg (enA e (.slice A n c)), .agg (askA a)] w fun x w' => x = .returned (.bool (fits e a)) ∧ Below w.heap.size w w' := by
  have hb1 : Below w.heap.size w (w.alloc (.cells (enA e (.slice A n c)) 29)) := (Below.refl _ _).alloc (Nat.le_refl _) _
  have hx1 := BoxE.new w e (.slice A n c)
  obtain ⟨W1, hW1⟩ : ∃ W1, w.alloc (.cells (enA e (.slice A n c)) 29) = W1 := ⟨_, rfl⟩
  have hz1 : W1.heap.size = w.heap.size + 1 := by rw [← hW1]; simp
  rw [hW1] at hb1 hx1
  have hb2 : Below W1.heap.size W1 (W1.alloc (.cells (askA a) 31)) := (Below.refl _ _).alloc (Nat.le_refl _) _
  have hq2 := BoxQ.new W1 a
  obtain ⟨W2, hW2⟩ : ∃ W2, W1.alloc (.cells (askA a) 31) = W2 := ⟨_, rfl⟩
  rw [hW2] at hb2 hq2
  have hx2 := BoxE.below hx1 hb2
  have hB2 := hb1.trans (hb2.mono hb1.size)
  have hS2 := hS.below hB2
  rw [hz1] at hq2
  obtain ⟨D, hD⟩ : ∃ D, fits e a = D := ⟨_, rfl⟩
  rw [hD]
  have HFT := Lib.hid (show D = (decide (a.sv = [] ∨ a.sv ∈ e.sv) && decide (e.lo ≤ a.hi ∧ a.lo ≤ e.hi ∧ (a.cl < 0 ∨ e.cl = a.cl) ∧ (a.tk < e.tick ∨ e.tick = a.tk ∧ a.id < e.id))) by
    rw [← hD]; unfold fits fits0 past
    rw [← Bool.decide_and, ← Bool.decide_and]
    congr 1
    apply propext
    constructor
    · rintro ⟨⟨h1, h2, h3, h4⟩, h5⟩; exact ⟨h1, h2, h3, h4, h5⟩
    · rintro ⟨h1, h2, h3, h4, h5⟩; exact ⟨⟨h1, h2, h3, h4⟩, h5⟩)
  have HL := Lib.hid hS2.lies
  have h9 := hS2.few
  have HN := Lib.hid hn
  rw [hn] at h9
  have hnc : n ≤ c := by rw [← hn]; exact hS.le
  have hcm := hS.cap
  unfold maxLen at hcm
  have hS0 := beq_nil a.sv
  obtain ⟨eid, ecl, eti, eco, epi, ebi, elo, ehi, ema, sv, ese, epl, esz⟩ := e
  obtain ⟨s, alo, ahi, acl, atk, aid, alim⟩ := a
  simp only at *
  have HB2 := Lib.hid hB2
  have HX2 := Lib.hid (fun (W : World) (hW : Below W2.heap.size W2 W) => BoxE.all (BoxE.below hx2 hW))
  have HQ2 := Lib.hid (fun (W : World) (hW : Below W2.heap.size W2 W) => BoxQ.all (BoxQ.below hq2 hW))
  simp only at HX2 HQ2
  unfold enA at hW1
  unfold askA at hW2
  simp only at hW1 hW2
  rw [← hW1] at hW2
  have HW2 := Lib.hid hW2
  have HBS := Lib.hid (fun (k : Nat) (hk : k < sv.length) => beq_str sv[k] s)
  obtain ⟨Z, hZ⟩ : ∃ Z, str s = Z := ⟨_, rfl⟩
  simp only [hZ] at hS0 HW2 HBS HQ2
  unfold enA askA
  simp only [hZ]
  have HZ := Lib.hid hZ
  obtain ⟨O, hO⟩ : ∃ O, decide (s = []) = O := ⟨_, rfl⟩
  rw [hO] at hS0
  have HO := Lib.hid hO
  clear hW1 hW2 hD hS hS2 hn hb1 hx1 hb2 hq2 hx2 hB2 hZ hO
  go_enter Try.func14, Try.ntmps14
  go_wp2
  rw [HW2.out]
  clear hS0
  go_loopw [5, 6] (fun s5 s6 wr => ∃ k : Nat, s6 = .int .i64 (k : Int) ∧ k ≤ n ∧ s5 = .bool (decide (s = [] ∨ s ∈ sv.take k)) ∧ Below W2.heap.size W2 wr) (fun _ i _ => n - (intOf i).toNat)
  case atStart => exact ⟨0, rfl, Nat.zero_le _, by rw [← HO.out]; simp, Below.refl _ _⟩
  case round =>
    obtain ⟨k, rfl, hk, rfl, hbr⟩ := hrel
    have HBR := Lib.hid hbr
    obtain ⟨x0, x1, x2, -, -, -, x6, x7, -, x9, -⟩ := HX2.out wr hbr
    obtain ⟨q0, q1, q2, q3, q4, q5, q6⟩ := HQ2.out wr hbr
    obtain ⟨O', hO'⟩ : ∃ O', decide (s = [] ∨ s ∈ sv.take k) = O' := ⟨_, rfl⟩
    rw [hO']
    have HO' := Lib.hid hO'
    clear hO'
    by_cases hlt : k < n
    · have hks : k < sv.length := by rw [HN.out]; exact hlt
      obtain ⟨ad, rfl, hadb, hcl⟩ := at_text HL.out k hks
      have y0 := hcl wr hbr
      have hbs := HBS.out k hks
      have HT := Lib.hid (show decide (s = [] ∨ s ∈ sv.take (k + 1)) = (O' || decide (sv[k] = s)) by
        rw [← HO'.out, ← Bool.decide_or, List.take_succ_eq_append_getElem hks]
        congr 1
        apply propext
        rw [List.mem_append, List.mem_singleton, or_assoc, eq_comm (a := sv[k])])
      clear hcl
      obtain ⟨X, hX⟩ : ∃ X, str sv[k] = X := ⟨_, rfl⟩
      rw [hX] at y0 hbs
      obtain ⟨T, hT⟩ : ∃ T, decide (sv[k] = s) = T := ⟨_, rfl⟩
      rw [hT] at hbs HT
      clear hX hT
      rcases O' with _ | _
      · go_wp2
        go_quiet (fail)
        go_wp2
        go_roundw
        case rel => exact ⟨k + 1, by go_num, by omega, by rw [HT.out]; rfl, below_many HBR.out _⟩
        case measure => simp [intOf]; omega
      · go_wp2
        go_quiet (fail)
        go_wp2
        go_roundw
        case rel => exact ⟨k + 1, by go_num, by omega, by rw [HT.out]; rfl, below_many HBR.out _⟩
        case measure => simp [intOf]; omega
    · obtain rfl : k = n := by omega
      have HF := Lib.hid (show decide (s = [] ∨ s ∈ sv) = O' by
        rw [← HO'.out, List.take_of_length_le (by rw [HN.out]; omega)])
      rw [HF.out] at HFT
      have HE := Lib.hid (HB2.out.trans (HBR.out.mono HB2.out.size))
      clear HL HBS HB2 HBR HF HO' HO HX2 HQ2
      rcases O' with _ | _
      · obtain rfl : D = false := by rw [HFT.out, Bool.false_and]
        clear HFT
        go_wp2
        go_ret
        exact ⟨rfl, HE.out⟩
      · by_cases h1 : ahi < elo
        · have t1 : decide (ahi < elo) = true := by simpa using h1
          obtain rfl : D = false := by rw [HFT.out, Bool.true_and, decide_eq_false_iff_not]; omega
          clear HFT
          go_wp2
          go_ret
          exact ⟨rfl, HE.out⟩
        · have t1 : decide (ahi < elo) = false := by simpa using h1
          by_cases h2 : ehi < alo
          · have t2 : decide (ehi < alo) = true := by simpa using h2
            obtain rfl : D = false := by rw [HFT.out, Bool.true_and, decide_eq_false_iff_not]; omega
            clear HFT
            go_wp2
            go_ret
            exact ⟨rfl, HE.out⟩
          · have t2 : decide (ehi < alo) = false := by simpa using h2
            by_cases h3 : 0 ≤ acl
            · have t3 : decide (0 ≤ acl) = true := by simpa using h3
              by_cases h4 : ecl = acl
              · have t4 : (ecl != acl) = false := by simpa using h4
                by_cases h5 : atk < eti
                · have t5 : decide (atk < eti) = true := by simpa using h5
                  obtain rfl : D = true := by rw [HFT.out, Bool.true_and, decide_eq_true_eq]; omega
                  clear HFT h4
                  go_wp2
                  go_ret
                  exact ⟨rfl, HE.out⟩
                · have t5 : decide (atk < eti) = false := by simpa using h5
                  by_cases h6 : eti = atk
                  · have t6 : (eti == atk) = true := by simpa using h6
                    by_cases h7 : aid < eid
                    · have t7 : decide (aid < eid) = true := by simpa using h7
                      obtain rfl : D = true := by rw [HFT.out, Bool.true_and, decide_eq_true_eq]; omega
                      clear HFT h6 h4
                      go_wp2
                      go_ret
                      exact ⟨rfl, HE.out⟩
                    · have t7 : decide (aid < eid) = false := by simpa using h7
                      obtain rfl : D = false := by rw [HFT.out, Bool.true_and, decide_eq_false_iff_not]; omega
                      clear HFT h6 h4
                      go_wp2
                      go_ret
                      exact ⟨rfl, HE.out⟩
                  · have t6 : (eti == atk) = false := by simpa using h6
                    obtain rfl : D = false := by rw [HFT.out, Bool.true_and, decide_eq_false_iff_not]; omega
                    clear HFT h4
                    go_wp2
                    go_ret
                    exact ⟨rfl, HE.out⟩
              · have t4 : (ecl != acl) = true := by simpa using h4
                obtain rfl : D = false := by rw [HFT.out, Bool.true_and, decide_eq_false_iff_not]; omega
                clear HFT
                go_wp2
                go_ret
                exact ⟨rfl, HE.out⟩
            · have t3 : decide (0 ≤ acl) = false := by simpa using h3
              by_cases h5 : atk < eti
              · have t5 : decide (atk < eti) = true := by simpa using h5
                obtain rfl : D = true := by rw [HFT.out, Bool.true_and, decide_eq_true_eq]; omega
                clear HFT
                go_wp2
                go_ret
                exact ⟨rfl, HE.out⟩
              · have t5 : decide (atk < eti) = false := by simpa using h5
                by_cases h6 : eti = atk
                · have t6 : (eti == atk) = true := by simpa using h6
                  by_cases h7 : aid < eid
                  · have t7 : decide (aid < eid) = true := by simpa using h7
                    obtain rfl : D = true := by rw [HFT.out, Bool.true_and, decide_eq_true_eq]; omega
                    clear HFT h6
                    go_wp2
                    go_ret
                    exact ⟨rfl, HE.out⟩
                  · have t7 : decide (aid < eid) = false := by simpa using h7
                    obtain rfl : D = false := by rw [HFT.out, Bool.true_and, decide_eq_false_iff_not]; omega
                    clear HFT h6
                    go_wp2
                    go_ret
                    exact ⟨rfl, HE.out⟩
                · have t6 : (eti == atk) = false := by simpa using h6
                  obtain rfl : D = false := by rw [HFT.out, Bool.true_and, decide_eq_false_iff_not]; omega
                  clear HFT
                  go_wp2
                  go_ret
                  exact ⟨rfl, HE.out⟩
end Go.Proofs.Ytcoedohfggeaiaa
