/-
  Layer 7: dev's turn: the bits of a sector that turn, and no other ones. Nothing is assumed.
-/
import Derived.Test.YtldecmodhppjpaaDvT0
import Derived.Test.YtldecmodhppjpaaDvF

namespace Go.Proofs.Ytldecmodhppjpaa
open Go.RowKit
set_option maxRecDepth 100000

theorem turned_step (s : List UInt8) (a bits k : Nat) (hp : a + k < 512) : (Plain.tr s a bits k).set ((a + k) / 8) (turned1 ((Plain.tr s a bits k).getD ((a + k) / 8) 0) (bits / 2 ^ k % 2) ((a + k) % 8)) = Plain.tr s a bits (k + 1) := by
  rw [Plain.tr_succ]
  by_cases h : bits / 2 ^ k % 2 = 1
  · rw [if_pos ⟨hp, h⟩, h]
    rfl
  · rw [if_neg (fun e => h e.2)]
    unfold turned1
    rw [if_neg h]
    generalize Plain.tr s a bits k = l
    apply List.ext_getElem?
    intro j
    by_cases e : j = (a + k) / 8
    · subst e
      rcases Nat.lt_or_ge ((a + k) / 8) l.length with hl | hl
      · simp [hl]
      · simp [hl]
    · rw [List.getElem?_set_ne (Ne.symm e)]
theorem ne_u32 (W : World) (x : Nat) (r : Bool) (h : decide (x ≠ 0) = r) : (binOp .neq 49 (.int .u32 (x : Int)) (.int .u32 0)).run Try.prog W = .ok (.bool r) W := by
  have e : (((x : Int) != 0)) = r := by
    rw [← h]
    by_cases hx : x = 0
    · subst hx; rfl
    · have : (x : Int) ≠ 0 := by omega
      simp [hx]
  go_simp

set_option maxHeartbeats 4000000 in
theorem turn_any (w : World) (g n i : Nat) (K : Nat → List UInt8) (at_ : Int) (bits : Nat) (hkb : Kb w g n K) (hK : ∀ j, j < n → (K j).length = 64) (hi : i < n) (hbits : bits < 4294967296) :
    Calls Try.prog 37 #[.pointer (some ⟨g, i * 64, none⟩), .int .i64 at_, .int .u32 (bits : Int)] w fun e w' => e = .returned (.tuple #[]) ∧ Kb w' g n (Plain.upd K i (Plain.turn (K i) at_ bits)) ∧ Kept [g] w w' := by
  by_cases hneg : at_ < 0
  · have e1 : Plain.turn (K i) at_ bits = K i := Plain.turn_out _ _ _ (.inl hneg)
    rw [e1, Plain.upd_self]
    have HKB := Lib.hid hkb
    have t0 : decide (at_ < 0) = true := by simpa using hneg
    clear hkb e1 hneg
    go_enter Try.func37, Try.ntmps37
    go_wp2
    go_returns
    exact ⟨rfl, HKB.out, Kept.refl _ _⟩
  · obtain ⟨aa, rfl⟩ := Int.eq_ofNat_of_zero_le (show 0 ≤ at_ by omega)
    have t0 : decide ((aa : Int) < 0) = false := by simp
    have HT := Lib.hid (show Plain.turn (K i) aa bits = Plain.tr (K i) aa bits 32 by unfold Plain.turn; rw [if_neg (by omega)]; rfl)
    obtain ⟨oo, ho⟩ : ∃ oo, i * 64 = oo := ⟨_, rfl⟩
    have HO := Lib.hid ho
    rw [ho]
    have HKB := Lib.hid hkb
    have HK := Lib.hid hK
    clear hkb hK hneg ho
    go_enter Try.func37, Try.ntmps37
    go_wp2
    go_loopw [1, 2] (fun s t wr => ∃ k : Nat, s = .int .i64 ((aa + k : Nat) : Int) ∧ t = .int .u32 ((bits / 2 ^ k : Nat) : Int) ∧ (k = 0 ∨ aa + k ≤ 512) ∧ Kb wr g n (Plain.upd K i (Plain.tr (K i) aa bits k)) ∧ Kept [g] w wr) (fun s _ _ => 512 - (RowKit.intOf s).toNat)
    case atStart =>
      refine ⟨0, rfl, by simp, .inl rfl, ?_, Kept.refl _ _⟩
      show Kb w g n (Plain.upd K i (K i))
      rw [Plain.upd_self]; exact HKB.out
    case round =>
      obtain ⟨k, rfl, rfl, hk, hkr, hkp⟩ := hrel
      obtain ⟨pp, hp⟩ : ∃ pp, aa + k = pp := ⟨_, rfl⟩
      obtain ⟨x, hx⟩ : ∃ x, bits / 2 ^ k = x := ⟨_, rfl⟩
      have hxb : x < 4294967296 := by rw [← hx]; exact Nat.lt_of_le_of_lt (Nat.div_le_self _ _) hbits
      have HX := Lib.hid hx
      have HP := Lib.hid hp
      rw [hp, hx]
      rw [hp] at hk
      have HKR := Lib.hid hkr
      have HKP := Lib.hid hkp
      clear hkr hkp hp hx
      by_cases hgo : x ≠ 0 ∧ pp < 512
      · obtain ⟨hx0, hp5⟩ := hgo
        have t1 : ((x : Int) != 0) = true := by simp; omega
        have t2 : decide ((pp : Int) < 512) = true := by simp; omega
        obtain ⟨s, hs⟩ : ∃ s, Plain.tr (K i) aa bits k = s := ⟨_, rfl⟩
        have hsl : s.length = 64 := by rw [← hs, Plain.tr_length]; exact HK.out i hi
        have hrg : wr.rangeAt g oo (cells s) := by
          have := HKR.out.range hi
          rw [Plain.upd_same, HO.out, hs] at this
          exact this
        obtain ⟨c, hc⟩ : ∃ c, s.getD (pp / 8) 0 = c := ⟨_, rfl⟩
        have hcell : wr.cell? ⟨g, oo + pp / 8, none⟩ = some (.int .u8 (c.toNat : Int)) := hrg (pp / 8) _ (by
          have hl : pp / 8 < s.length := by omega
          rw [← hc]
          simp [cells, hl])
        have hgl : g < wr.heap.size := HKR.out.lt
        have HL := Lib.hid (fun (W : World) (hW : Below wr.heap.size wr W) => show (Instr.loadAt 5 (.pointer (some ⟨g, oo + pp / 8, none⟩))).run Try.prog W = .ok (.int .u8 (c.toNat : Int)) W from by
          have c1 : W.cell? ⟨g, oo + pp / 8, none⟩ = some (.int .u8 (c.toNat : Int)) := (hW.cell (p := ⟨g, oo + pp / 8, none⟩) hgl).trans hcell
          go_simp)
        have HST := Lib.hid (fun (W : World) (hW : Below wr.heap.size wr W) (v : Int) => show (Instr.storeAt 5 (.pointer (some ⟨g, oo + pp / 8, none⟩)) (.int .u8 v)).run Try.prog W = .ok () (W.setCell ⟨g, oo + pp / 8, none⟩ (.int .u8 v)) from by
          have c1 : W.cell? ⟨g, oo + pp / 8, none⟩ = some (.int .u8 (c.toNat : Int)) := (hW.cell (p := ⟨g, oo + pp / 8, none⟩) hgl).trans hcell
          have f1 : W.frozen? ⟨g, oo + pp / 8, none⟩ = false := by
            have := ((HKR.out.block (hW.block g hgl)).there hi (pp / 8) (by omega)).2
            rwa [HO.out] at this
          go_simp)
        have HC := Lib.hid hc
        have HS := Lib.hid hs
        have hx := hxb
        have hbd : Below wr.heap.size wr wr.drew := (Below.refl _ _).drew
        clear hcell hrg hc hs hsl
        go_wp2
        refine wp_late (by kernel_rfl) 33 [(16, [0]), (17, [1]), (18, [17]), (19, [16]), (20, [19, 18]), (21, [20]), (22, [2]), (23, [22]), (24, [23]), (25, [1]), (26, [25]), (27, [24, 26]), (28, [21, 27]), (29, [16]), (30, [29, 18]), (1015, [30, 28])]
          [Fact.is (.pointer (some ⟨g, oo, none⟩)), Fact.is (.int .i64 (pp : Int)), Fact.is (.int .i64 ((pp / 8 : Nat) : Int)), Fact.is (.pointer (some ⟨g, oo, none⟩)), Fact.is (.pointer (some ⟨g, oo + pp / 8, none⟩)), Fact.is (.int .u8 (c.toNat : Int)), Fact.is (.int .u32 (x : Int)), Fact.is (.int .u32 ((x % 2 : Nat) : Int)), Fact.is (.int .u8 ((x % 2 : Nat) : Int)), Fact.is (.int .i64 (pp : Int)), Fact.is (.int .i64 ((pp % 8 : Nat) : Int)), Fact.is (.int .u8 ((x % 2 * 2 ^ (pp % 8) : Nat) : Int)), Fact.is (.int .u8 ((turned1 c (x % 2) (pp % 8)).toNat : Int)), Fact.is (.pointer (some ⟨g, oo, none⟩)), Fact.is (.pointer (some ⟨g, oo + pp / 8, none⟩)), default]
          [1, 1, 1, 1, 1, 1, 1, 1, 1, 1, 1, 1, 1, 1, 1, 2] [15] [] [16, 17, 18, 19, 20, 21, 22, 23, 24, 25, 26, 27, 28, 29, 30] ((fun _ _ w' => ∃ W, Below wr.heap.size wr W ∧ w' = W.setCell ⟨g, oo + pp / 8, none⟩ (.int .u8 ((turned1 c (x % 2) (pp % 8)).toNat : Int))))
          (by kernel_rfl) (by kernel_rfl) rfl rfl ⟨?s0, ?s1, ?s2, ?s3, ?s4, ?s5, ?s6, ?s7, ?s8, ?s9, ?s10, ?s11, ?s12, ?s13, ?s14, trivial⟩ ?late ?fin
        case s0 =>
          intro ρ W hb hc hf hr
          obtain ⟨r0, -⟩ := hr
          have e0 : ρ (.tmp 0) = .pointer (some ⟨g, oo, none⟩) := r0
          clear r0
          refine under_none rfl ?_
          exact ⟨e0, Below.refl _ _⟩
        case s1 =>
          intro ρ W hb hc hf hr
          obtain ⟨r1, -⟩ := hr
          have e1 : ρ (.tmp 1) = .int .i64 (pp : Int) := r1
          clear r1
          refine under_none rfl ?_
          exact ⟨e1, Below.refl _ _⟩
        case s2 =>
          intro ρ W hb hc hf hr
          obtain ⟨r17, -⟩ := hr
          have e17 : ρ (.tmp 17) = .int .i64 (pp : Int) := r17
          clear r17
          refine under_none rfl ?_
          exact soft_bin e17 (hc _) rfl rfl (quo8 W pp (by omega))
        case s3 =>
          intro ρ W hb hc hf hr
          obtain ⟨r16, -⟩ := hr
          have e16 : ρ (.tmp 16) = .pointer (some ⟨g, oo, none⟩) := r16
          clear r16
          refine under_none rfl ?_
          simp [execOp, e16, go_sem, softUpon, Fact.is, Below.refl]
        case s4 =>
          intro ρ W hb hc hf hr
          obtain ⟨r19, r18, -⟩ := hr
          have e19 : ρ (.tmp 19) = .pointer (some ⟨g, oo, none⟩) := r19
          clear r19
          have e18 : ρ (.tmp 18) = .int .i64 ((pp / 8 : Nat) : Int) := r18
          clear r18
          refine under_none rfl ?_
          exact soft_index e19 e18 (run_indexArr W g oo (pp / 8) (by omega)) rfl
        case s5 =>
          intro ρ W hb hc hf hr
          obtain ⟨r20, -⟩ := hr
          have e20 : ρ (.tmp 20) = .pointer (some ⟨g, oo + pp / 8, none⟩) := r20
          clear r20
          refine under_none rfl ?_
          exact soft_load e20 (HL.out W (hbd.trans (hb.mono (by simp)))) rfl
        case s6 =>
          intro ρ W hb hc hf hr
          obtain ⟨r2, -⟩ := hr
          have e2 : ρ (.tmp 2) = .int .u32 (x : Int) := r2
          clear r2
          refine under_none rfl ?_
          exact ⟨e2, Below.refl _ _⟩
        case s7 =>
          intro ρ W hb hc hf hr
          obtain ⟨r22, -⟩ := hr
          have e22 : ρ (.tmp 22) = .int .u32 (x : Int) := r22
          clear r22
          refine under_none rfl ?_
          exact soft_bin e22 (hc _) rfl rfl (and1 W x hx)
        case s8 =>
          intro ρ W hb hc hf hr
          obtain ⟨r23, -⟩ := hr
          have e23 : ρ (.tmp 23) = .int .u32 ((x % 2 : Nat) : Int) := r23
          clear r23
          refine under_none rfl ?_
          exact soft_conv e23 (conv8 W (x % 2) (by omega)) rfl
        case s9 =>
          intro ρ W hb hc hf hr
          obtain ⟨r1, -⟩ := hr
          have e1 : ρ (.tmp 1) = .int .i64 (pp : Int) := r1
          clear r1
          refine under_none rfl ?_
          exact ⟨e1, Below.refl _ _⟩
        case s10 =>
          intro ρ W hb hc hf hr
          obtain ⟨r25, -⟩ := hr
          have e25 : ρ (.tmp 25) = .int .i64 (pp : Int) := r25
          clear r25
          refine under_none rfl ?_
          exact soft_bin e25 (hc _) rfl rfl (rem8 W pp (by omega))
        case s11 =>
          intro ρ W hb hc hf hr
          obtain ⟨r24, r26, -⟩ := hr
          have e24 : ρ (.tmp 24) = .int .u8 ((x % 2 : Nat) : Int) := r24
          clear r24
          have e26 : ρ (.tmp 26) = .int .i64 ((pp % 8 : Nat) : Int) := r26
          clear r26
          refine under_none rfl ?_
          exact soft_bin e24 e26 rfl rfl (shl8 W (x % 2) (pp % 8) (by omega) (by omega))
        case s12 =>
          intro ρ W hb hc hf hr
          obtain ⟨r21, r27, -⟩ := hr
          have e21 : ρ (.tmp 21) = .int .u8 (c.toNat : Int) := r21
          clear r21
          have e27 : ρ (.tmp 27) = .int .u8 ((x % 2 * 2 ^ (pp % 8) : Nat) : Int) := r27
          clear r27
          refine under_none rfl ?_
          exact soft_bin e21 e27 rfl rfl (xor8 W c (x % 2) (pp % 8) (by omega) (by omega))
        case s13 =>
          intro ρ W hb hc hf hr
          obtain ⟨r16, -⟩ := hr
          have e16 : ρ (.tmp 16) = .pointer (some ⟨g, oo, none⟩) := r16
          clear r16
          refine under_none rfl ?_
          simp [execOp, e16, go_sem, softUpon, Fact.is, Below.refl]
        case s14 =>
          intro ρ W hb hc hf hr
          obtain ⟨r29, r18, -⟩ := hr
          have e29 : ρ (.tmp 29) = .pointer (some ⟨g, oo, none⟩) := r29
          clear r29
          have e18 : ρ (.tmp 18) = .int .i64 ((pp / 8 : Nat) : Int) := r18
          clear r18
          refine under_none rfl ?_
          exact soft_index e29 e18 (run_indexArr W g oo (pp / 8) (by omega)) rfl
        case late =>
          intro p j o hj ho a W hsz h0 h1 hfr hou
          match p, hj with
          | 0, hj =>
            obtain rfl : 15 = j := Option.some.inj hj
            obtain rfl := Option.some.inj ho
            clear hj ho
            obtain ⟨hb, hhard⟩ := h0 rfl
            have e30 : a.eval (.tmp 30) = .pointer (some ⟨g, oo + pp / 8, none⟩) := hhard 30 14 rfl rfl
            have e28 : a.eval (.tmp 28) = .int .u8 ((turned1 c (x % 2) (pp % 8)).toNat : Int) := hhard 28 12 rfl rfl
            clear h0 h1 hhard hfr hou
            refine late_store (x := .tmp 30) (y := .tmp 28) (w' := W.setCell ⟨g, oo + pp / 8, none⟩ (.int .u8 ((turned1 c (x % 2) (pp % 8)).toNat : Int))) rfl (by rw [e30, e28]; exact HST.out W (hbd.trans (hb.mono (by simp))) _) ⟨undef, rfl, W, hbd.trans (hb.mono (by simp)), rfl⟩
          | q + 1, hj => cases hj
        case fin =>
          intro a w5 ha hP
          obtain ⟨W, hW, rfl⟩ := hP
          have HW := Lib.hid hW
          clear hW
          simp only [List.foldl_cons, List.foldl_nil] at ha
          generalize a.tmps.getD 16 undef = v16 at ha
          generalize a.tmps.getD 17 undef = v17 at ha
          generalize a.tmps.getD 18 undef = v18 at ha
          generalize a.tmps.getD 19 undef = v19 at ha
          generalize a.tmps.getD 20 undef = v20 at ha
          generalize a.tmps.getD 21 undef = v21 at ha
          generalize a.tmps.getD 22 undef = v22 at ha
          generalize a.tmps.getD 23 undef = v23 at ha
          generalize a.tmps.getD 24 undef = v24 at ha
          generalize a.tmps.getD 25 undef = v25 at ha
          generalize a.tmps.getD 26 undef = v26 at ha
          generalize a.tmps.getD 27 undef = v27 at ha
          generalize a.tmps.getD 28 undef = v28 at ha
          generalize a.tmps.getD 29 undef = v29 at ha
          generalize a.tmps.getD 30 undef = v30 at ha
          simp only [Act.put, List.setIfInBounds_toArray, List.set_cons_succ, List.set_cons_zero] at ha
          subst ha
          have hk5 : Kept [g] w (W.setCell ⟨g, oo + pp / 8, none⟩ (.int .u8 ((turned1 c (x % 2) (pp % 8)).toNat : Int))) := (HKP.out.trans (Kept.of HW.out _)).setCell (by simp) _
          have hkb5 : Kb (W.setCell ⟨g, oo + pp / 8, none⟩ (.int .u8 ((turned1 c (x % 2) (pp % 8)).toNat : Int))) g n (Plain.upd K i (Plain.tr (K i) aa bits (k + 1))) := by
            have h1 := (HKR.out.block (HW.out.block g hgl)).byte (i := i) (j := pp / 8) (fun j hj => by
              unfold Plain.upd
              split
              · rw [Plain.tr_length]; exact HK.out i hi
              · exact HK.out j hj) hi (by omega) (turned1 c (x % 2) (pp % 8))
            rw [Plain.upd_same, Plain.upd_upd, HO.out, HS.out] at h1
            have h2 := turned_step (K i) aa bits k (by rw [HP.out]; exact hp5)
            rw [HP.out, HX.out, HS.out, HC.out] at h2
            rw [← h2]
            exact h1
          have HK5 := Lib.hid hk5
          have HKB5 := Lib.hid hkb5
          have hsr := shr1
          clear hk5 hkb5
          go_wp2
          go_roundw
          case rel =>
            refine ⟨k + 1, ?_, ?_, .inr (by have := HP.out; omega), HKB5.out, HK5.out⟩
            · rw [← Nat.add_assoc, HP.out]; go_num
            · rw [Nat.pow_succ, ← Nat.div_div_eq_div_mul, HX.out]
              first | rfl | go_num
          case measure => simp [RowKit.intOf]; omega
      · have HF := Lib.hid (show Plain.tr (K i) aa bits k = Plain.tr (K i) aa bits 32 from Plain.tr_all _ _ _ _ hbits (by rw [HX.out, HP.out]; omega))
        by_cases hx0 : x = 0
        · subst hx0
          have t1 : (((0 : Nat) : Int) != 0) = false := rfl
          go_wp2
          go_returns
          refine ⟨rfl, ?_, HKP.out⟩
          rw [HT.out, ← HF.out]; exact HKR.out
        · have t1 : ((x : Int) != 0) = true := by simp; omega
          have t2 : decide ((pp : Int) < 512) = false := by simp; omega
          go_wp2
          go_returns
          refine ⟨rfl, ?_, HKP.out⟩
          rw [HT.out, ← HF.out]; exact HKR.out
end Go.Proofs.Ytldecmodhppjpaa

