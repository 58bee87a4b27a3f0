/-
  Layer 7's given answer: Flush. Nothing is assumed.
-/
import Derived.Test.YtldecmodhppjpaaRfW

namespace Go.Proofs.Ytldecmodhppjpaa
open Go.ChangeShapes Go.WideShapes Go.ChangeAt Go.RowKit
set_option maxRecDepth 100000

/-- the first k ones are kept -/
def rfK (d : Plain.Dv) (k : Nat) (i : Nat) : List UInt8 := if i < k then d.sec i else d.kept i
def rfL (d : Plain.Dv) (k : Nat) (i : Nat) : Bool := if i < k then false else (d.wr i).isSome

set_option maxHeartbeats 2000000 in
theorem rflush_any (w : World) (bk bw bl g : Nat) (d : Plain.Dv) (hdone : d.done < 4611686018427387904) (h : IsRef w bk bw bl g d) :
    Calls Try.prog 16 #[.pointer (some ⟨g, 0, none⟩)] w fun e w' => e = .returned (.int .i64 (d.flush.2 : Int)) ∧ IsRef w' bk bw bl g d.flush.1 ∧ Kept [bk, bl, g] w w' := by
  have HT := Lib.hid (rthing_any h hdone)
  have HE := Lib.hid (show d.flush = if d.begin.2 ≠ 0 then d.begin else ({ d.begin.1 with kept := d.sec, wr := fun _ => none }, 0) from rfl)
  have HAP := Lib.hid h.apart
  obtain ⟨e1, e2, e3, -⟩ := d.begin_same
  have HOK := Lib.hid (d.flush_ok h.ok)
  have HE1 := Lib.hid e1
  have HE2 := Lib.hid e2
  have HE3 := Lib.hid e3
  obtain ⟨n, hn⟩ : ∃ n, d.n = n := ⟨_, rfl⟩
  have HN := Lib.hid hn
  have hn1 : 1 ≤ n := by rw [← hn]; exact h.ok.one
  have hn2 : n ≤ 4096 := by rw [← hn]; exact h.ok.few
  have hlts := h.lts
  clear h e1 e2 e3 hn
  go_enter Try.func16, Try.ntmps16
  go_wp2_with fail
  refine HT.out.mono ?_
  rintro e wt ⟨rfl, hr, hk⟩
  obtain ⟨er, her⟩ : ∃ er, d.begin.2 = er := ⟨_, rfl⟩
  rw [her]
  have HK := Lib.hid hk
  have HR := Lib.hid hr
  clear hr hk HT
  obtain ⟨D1, hD1⟩ : ∃ D1, d.begin.1 = D1 := ⟨_, rfl⟩
  rw [hD1] at HR HE1 HE2 HE3
  have HDN := Lib.hid (show D1.n = n by rw [HE1.out, HN.out])
  have hbx := HR.out.box
  rw [HDN.out] at hbx
  have hgt := HR.out.lts
  by_cases he : er = 0
  case neg =>
    have t1 : ((er : Int) == 0) = false := by simp; omega
    have t2 : decide ((0 : Int) < (n : Int)) = true := decide_eq_true (by omega)
    have HE4 := Lib.hid (show d.flush = (D1, er) by rw [HE.out, if_pos (by rw [her]; exact he), ← her, ← hD1])
    have c0 : wt.cell? ⟨g, 0, none⟩ = some (.slice (some ⟨bk, 0, none⟩) n n) := hbx.cell 0
    clear her hD1 hbx
    go_wp2
    go_loopw [4] (fun s wr => s = .int .i64 0 ∧ wr = wt) (fun _ _ => 0)
    case atStart => exact ⟨rfl, rfl⟩
    case round =>
      obtain ⟨rfl, rfl⟩ := hrel
      go_wp2
      go_returns
      rw [HE4.out]
      exact ⟨rfl, HR.out, HK.out.mono (by simp)⟩
  subst he
  have HE4 := Lib.hid (show d.flush = ({ D1 with kept := d.sec, wr := fun _ => none }, 0) by rw [HE.out, if_neg (by rw [her]; simp), hD1])
  have HBX := Lib.hid hbx
  obtain ⟨Wf, hwf, hwr⟩ := HR.out.wr
  rw [HDN.out] at hwf
  have HWR := Lib.hid (show ∀ i s, d.wr i = some s → Wf i = str s from fun i s hs => hwr i s (by rw [HE3.out]; exact hs))
  have HKP := Lib.hid (show RowN wt bk 9 n (fun i => .string (str (rfK d 0 i))) by
    have := HR.out.kept; rw [HDN.out, HE2.out] at this
    exact this.congr fun i _ => by simp [rfK])
  have HLP := Lib.hid (show RowN wt bl 4 n (fun i => .bool (rfL d 0 i)) by
    have := HR.out.loose; rw [HDN.out, HE3.out] at this
    exact this.congr fun i _ => by simp [rfL])
  have HWF := Lib.hid hwf
  have hp := HAP.out
  clear her hD1 hbx hwf hwr HR
  go_wp2
  go_loopw [4] (fun s wr => ∃ k : Nat, s = .int .i64 (k : Int) ∧ k ≤ n ∧ Blk wr g #[.slice (some ⟨bk, 0, none⟩) n n, .slice (some ⟨bw, 0, none⟩) n n, .slice (some ⟨bl, 0, none⟩) n n, .bool D1.down, .int .i64 (D1.done : Int), .int .i64 (D1.left : Int), .bool D1.cut] 63 ∧ RowN wr bk 9 n (fun i => .string (str (rfK d k i))) ∧ RowN wr bw 9 n (fun i => .string (Wf i)) ∧ RowN wr bl 4 n (fun i => .bool (rfL d k i)) ∧ Kept [bk, bl] wt wr) (fun s _ => n - (RowKit.intOf s).toNat)
  case atStart => exact ⟨0, rfl, Nat.zero_le _, HBX.out, HKP.out, HWF.out, HLP.out, Kept.refl _ _⟩
  case round =>
    clear HBX HKP HWF HLP
    obtain ⟨k, rfl, hk, hbx, hkp, hwf, hlp, hkk⟩ := hrel
    have HBX := Lib.hid hbx
    have HKP := Lib.hid hkp
    have HWF := Lib.hid hwf
    have HLP := Lib.hid hlp
    have HKK := Lib.hid hkk
    have zr := hkk.size
    have c0 : wr.cell? ⟨g, 0, none⟩ = some (.slice (some ⟨bk, 0, none⟩) n n) := hbx.cell 0
    have c1 : wr.cell? ⟨g, 1, none⟩ = some (.slice (some ⟨bw, 0, none⟩) n n) := hbx.cell 1
    have c2 : wr.cell? ⟨g, 2, none⟩ = some (.slice (some ⟨bl, 0, none⟩) n n) := hbx.cell 2
    clear hbx hkp hwf hlp hkk
    by_cases hkn : k < n
    · have hk0 : (0 : Int) ≤ (k : Int) := by omega
      have hk1 : (k : Int) < (n : Int) := by omega
      have hcl : wr.cell? ⟨bl, k, none⟩ = some (.bool (d.wr k).isSome) := by
        have := HLP.out.cell hkn
        simpa [rfL] using this
      cases hs : d.wr k with
      | none =>
        rw [hs] at hcl
        simp only [Option.isSome_none] at hcl
        have HK2 := Lib.hid (show ∀ i, i < n → Value.string (str (rfK d k i)) = .string (str (rfK d (k + 1) i)) from fun i hi => by
          unfold rfK
          by_cases e : i = k
          · subst e
            rw [if_neg (by omega), if_pos (by omega)]
            unfold Plain.Dv.sec
            rw [hs]; rfl
          · by_cases e2 : i < k
            · rw [if_pos e2, if_pos (by omega)]
            · rw [if_neg e2, if_neg (by omega)])
        have HL2 := Lib.hid (show ∀ i, i < n → Value.bool (rfL d k i) = .bool (rfL d (k + 1) i) from fun i hi => by
          unfold rfL
          by_cases e : i = k
          · subst e
            rw [if_neg (by omega), if_pos (by omega), hs]; rfl
          · by_cases e2 : i < k
            · rw [if_pos e2, if_pos (by omega)]
            · rw [if_neg e2, if_neg (by omega)])
        clear hs
        go_wp2
        go_roundw
        case rel => exact ⟨k + 1, by go_num, by omega, HBX.out, HKP.out.congr HK2.out, HWF.out, HLP.out.congr HL2.out, HKK.out⟩
        case measure => simp [RowKit.intOf]; omega
      | some s =>
        rw [hs] at hcl
        simp only [Option.isSome_some] at hcl
        obtain ⟨S, hS⟩ : ∃ S, str s = S := ⟨_, rfl⟩
        have HWK := Lib.hid (show Wf k = S by rw [← hS]; exact HWR.out k s hs)
        have HC0 := Lib.hid (fun (W : World) (hW : Below wr.heap.size wr W) => run_loadSl W ⟨g, 0, none⟩ _ ((hW.cell (p := ⟨g, 0, none⟩) (by have := hgt.2.2.2; show g < _; omega)).trans c0))
        have HC1 := Lib.hid (fun (W : World) (hW : Below wr.heap.size wr W) => run_loadSl W ⟨g, 1, none⟩ _ ((hW.cell (p := ⟨g, 1, none⟩) (by have := hgt.2.2.2; show g < _; omega)).trans c1))
        have HCW := Lib.hid (fun (W : World) (hW : Below wr.heap.size wr W) => run_loadS W ⟨bw, k, none⟩ S (by have := (HWF.out.kept (Kept.of hW []) (by simp)).cell hkn; rwa [HWK.out] at this))
        have HK2 := Lib.hid (show ∀ i, i < n → Plain.upd (fun i => Value.string (str (rfK d k i))) k (.string S) i = .string (str (rfK d (k + 1) i)) from fun i hi => by
          unfold rfK Plain.upd
          by_cases e : i = k
          · subst e
            rw [if_pos rfl, if_pos (by omega), ← hS]
            unfold Plain.Dv.sec
            rw [hs]; rfl
          · rw [if_neg e]
            dsimp only
            by_cases e2 : i < k
            · rw [if_pos e2, if_pos (by omega)]
            · rw [if_neg e2, if_neg (by omega)])
        have HL2 := Lib.hid (show ∀ i, i < n → Plain.upd (fun i => Value.bool (rfL d k i)) k (.bool false) i = .bool (rfL d (k + 1) i) from fun i hi => by
          unfold rfL Plain.upd
          by_cases e : i = k
          · subst e
            rw [if_pos rfl, if_pos (by omega)]
          · rw [if_neg e]
            dsimp only
            by_cases e2 : i < k
            · rw [if_pos e2, if_pos (by omega)]
            · rw [if_neg e2, if_neg (by omega)])
        have hbd : Below wr.heap.size wr wr.drew := (Below.refl _ _).drew
        clear hs hS
        go_wp2
        refine wp_late (by kernel_rfl) 47 [(27, [0]), (28, [27]), (29, [28]), (30, [29]), (31, [4]), (32, [0]), (33, [32]), (34, [33]), (35, [34]), (36, [4]), (37, [35, 36]), (38, [37]), (39, [30, 31]), (1013, [39, 38])]
          [Fact.is (.pointer (some ⟨g, 0, none⟩)), Fact.is (.pointer (some ⟨g, 0, none⟩)), Fact.is (.pointer (some ⟨g, 0, none⟩)), Fact.is (.slice (some ⟨bk, 0, none⟩) n n), Fact.is (.int .i64 (k : Int)), Fact.is (.pointer (some ⟨g, 0, none⟩)), Fact.is (.pointer (some ⟨g, 0, none⟩)), Fact.is (.pointer (some ⟨g, 1, none⟩)), Fact.is (.slice (some ⟨bw, 0, none⟩) n n), Fact.is (.int .i64 (k : Int)), Fact.is (.pointer (some ⟨bw, k, none⟩)), Fact.is (.string S), Fact.is (.pointer (some ⟨bk, k, none⟩)), default]
          [1, 1, 1, 1, 1, 1, 1, 1, 1, 1, 1, 1, 1, 2] [13] [] [27, 28, 29, 30, 31, 32, 33, 34, 35, 36, 37, 38, 39] ((fun _ _ w' => ∃ W, Below wr.heap.size wr W ∧ w' = W.setCell ⟨bk, k, none⟩ (.string S)))
          (by kernel_rfl) (by kernel_rfl) rfl rfl ⟨?s0, ?s1, ?s2, ?s3, ?s4, ?s5, ?s6, ?s7, ?s8, ?s9, ?s10, ?s11, ?s12, trivial⟩ ?late ?fin
        case s0 =>
          intro ρ W hb hc hf hr
          obtain ⟨r0, -⟩ := hr
          have e0 : ρ (.tmp 0) = .pointer (some ⟨g, 0, none⟩) := r0
          clear r0
          refine under_none rfl ?_
          exact ⟨e0, Below.refl _ _⟩
        case s1 =>
          intro ρ W hb hc hf hr
          obtain ⟨r27, -⟩ := hr
          have e27 : ρ (.tmp 27) = .pointer (some ⟨g, 0, none⟩) := r27
          clear r27
          refine under_none rfl ?_
          simp [execOp, e27, go_sem, softUpon, Fact.is, Below.refl]
        case s2 =>
          intro ρ W hb hc hf hr
          obtain ⟨r28, -⟩ := hr
          have e28 : ρ (.tmp 28) = .pointer (some ⟨g, 0, none⟩) := r28
          clear r28
          refine under_none rfl ?_
          exact soft_field e28 rfl (fun W => by go_simp)
        case s3 =>
          intro ρ W hb hc hf hr
          obtain ⟨r29, -⟩ := hr
          have e29 : ρ (.tmp 29) = .pointer (some ⟨g, 0, none⟩) := r29
          clear r29
          refine under_none rfl ?_
          exact soft_load e29 (HC0.out W (hbd.trans (hb.mono (by simp)))) rfl
        case s4 =>
          intro ρ W hb hc hf hr
          obtain ⟨r4, -⟩ := hr
          have e4 : ρ (.tmp 4) = .int .i64 (k : Int) := r4
          clear r4
          refine under_none rfl ?_
          exact ⟨e4, Below.refl _ _⟩
        case s5 =>
          intro ρ W hb hc hf hr
          obtain ⟨r0, -⟩ := hr
          have e0 : ρ (.tmp 0) = .pointer (some ⟨g, 0, none⟩) := r0
          clear r0
          refine under_none rfl ?_
          exact ⟨e0, Below.refl _ _⟩
        case s6 =>
          intro ρ W hb hc hf hr
          obtain ⟨r32, -⟩ := hr
          have e32 : ρ (.tmp 32) = .pointer (some ⟨g, 0, none⟩) := r32
          clear r32
          refine under_none rfl ?_
          simp [execOp, e32, go_sem, softUpon, Fact.is, Below.refl]
        case s7 =>
          intro ρ W hb hc hf hr
          obtain ⟨r33, -⟩ := hr
          have e33 : ρ (.tmp 33) = .pointer (some ⟨g, 0, none⟩) := r33
          clear r33
          refine under_none rfl ?_
          exact soft_field e33 rfl (fun W => by go_simp)
        case s8 =>
          intro ρ W hb hc hf hr
          obtain ⟨r34, -⟩ := hr
          have e34 : ρ (.tmp 34) = .pointer (some ⟨g, 1, none⟩) := r34
          clear r34
          refine under_none rfl ?_
          exact soft_load e34 (HC1.out W (hbd.trans (hb.mono (by simp)))) rfl
        case s9 =>
          intro ρ W hb hc hf hr
          obtain ⟨r4, -⟩ := hr
          have e4 : ρ (.tmp 4) = .int .i64 (k : Int) := r4
          clear r4
          refine under_none rfl ?_
          exact ⟨e4, Below.refl _ _⟩
        case s10 =>
          intro ρ W hb hc hf hr
          obtain ⟨r35, r36, -⟩ := hr
          have e35 : ρ (.tmp 35) = .slice (some ⟨bw, 0, none⟩) n n := r35
          clear r35
          have e36 : ρ (.tmp 36) = .int .i64 (k : Int) := r36
          clear r36
          refine under_none rfl ?_
          exact soft_index e35 e36 (run_idxS W bw n n k hkn) rfl
        case s11 =>
          intro ρ W hb hc hf hr
          obtain ⟨r37, -⟩ := hr
          have e37 : ρ (.tmp 37) = .pointer (some ⟨bw, k, none⟩) := r37
          clear r37
          refine under_none rfl ?_
          exact soft_load e37 (HCW.out W (hbd.trans (hb.mono (by simp)))) rfl
        case s12 =>
          intro ρ W hb hc hf hr
          obtain ⟨r30, r31, -⟩ := hr
          have e30 : ρ (.tmp 30) = .slice (some ⟨bk, 0, none⟩) n n := r30
          clear r30
          have e31 : ρ (.tmp 31) = .int .i64 (k : Int) := r31
          clear r31
          refine under_none rfl ?_
          exact soft_index e30 e31 (run_idxS W bk n n k hkn) rfl
        case late =>
          intro p j o hj ho a W hsz h0 h1 hfr hou
          match p, hj with
          | 0, hj =>
            obtain rfl : 13 = j := Option.some.inj hj
            obtain rfl := Option.some.inj ho
            clear hj ho
            obtain ⟨hb, hhard⟩ := h0 rfl
            have e39 : a.eval (.tmp 39) = .pointer (some ⟨bk, k, none⟩) := hhard 39 12 rfl rfl
            have e38 : a.eval (.tmp 38) = .string S := hhard 38 11 rfl rfl
            clear h0 h1 hhard hfr hou
            have hW := hbd.trans (hb.mono (by simp))
            refine late_store (x := .tmp 39) (y := .tmp 38) (w' := W.setCell ⟨bk, k, none⟩ (.string S)) rfl (by rw [e39, e38]; exact run_storeS W _ _ _ ((HKP.out.kept (Kept.of hW []) (by simp)).cell hkn) ((HKP.out.kept (Kept.of hW []) (by simp)).frozen k)) ⟨undef, rfl, W, hW, rfl⟩
          | q + 1, hj => cases hj
        case fin =>
          intro a w5 ha hP
          obtain ⟨W, hW, rfl⟩ := hP
          have k1 : Kept [bk] wr (W.setCell ⟨bk, k, none⟩ (.string S)) := (Kept.of hW _).setCell (by simp) _
          have HKQ := Lib.hid (((HKP.out.kept (Kept.of hW []) (by simp)).set hkn (.string S)).congr HK2.out)
          obtain ⟨w5, hw5⟩ : ∃ w5, W.setCell ⟨bk, k, none⟩ (.string S) = w5 := ⟨_, rfl⟩
          rw [hw5] at k1 HKQ ⊢
          have HBX := Lib.hid (k1.blk HBX.out (by simp; exact fun h => hp.2.2.2.1 h.symm))
          have HWF := Lib.hid (HWF.out.kept k1 (by simp; exact fun h => hp.1 h.symm))
          have HLP := Lib.hid (HLP.out.kept k1 (by simp; exact fun h => hp.2.1 h.symm))
          have HKK := Lib.hid (HKK.out.trans (k1.mono (by simp)))
          have c2 : w5.cell? ⟨g, 2, none⟩ = some (.slice (some ⟨bl, 0, none⟩) n n) := HBX.out.cell 2
          have hcell := HLP.out.cell hkn
          have hfz := HLP.out.frozen k
          have k2 : Kept [bl] w5 (w5.setCell ⟨bl, k, none⟩ (.bool false)) := (Kept.refl _ _).setCell (by simp) _
          have HK2b := Lib.hid k2
          clear k1 hw5 hW HC0 HC1 HCW c0 c1 hcl k2
          simp only [List.foldl_cons, List.foldl_nil] at ha
          generalize a.tmps.getD 27 undef = v27 at ha
          generalize a.tmps.getD 28 undef = v28 at ha
          generalize a.tmps.getD 29 undef = v29 at ha
          generalize a.tmps.getD 30 undef = v30 at ha
          generalize a.tmps.getD 31 undef = v31 at ha
          generalize a.tmps.getD 32 undef = v32 at ha
          generalize a.tmps.getD 33 undef = v33 at ha
          generalize a.tmps.getD 34 undef = v34 at ha
          generalize a.tmps.getD 35 undef = v35 at ha
          generalize a.tmps.getD 36 undef = v36 at ha
          generalize a.tmps.getD 37 undef = v37 at ha
          generalize a.tmps.getD 38 undef = v38 at ha
          generalize a.tmps.getD 39 undef = v39 at ha
          simp only [Act.put, List.setIfInBounds_toArray, List.set_cons_succ, List.set_cons_zero] at ha
          subst ha
          go_wp2
          go_roundw
          case rel =>
            have k2 := HK2b.out
            exact ⟨k + 1, by go_num, by omega, k2.blk HBX.out (by simp; exact fun h => hp.2.2.2.2.2 h.symm), HKQ.out.kept k2 (by simp; exact hp.2.1), HWF.out.kept k2 (by simp; exact hp.2.2.1), (HLP.out.set hkn (.bool false)).congr HL2.out, HKK.out.trans (k2.mono (by simp))⟩
          case measure => simp [RowKit.intOf]; omega
    · obtain rfl : n = k := by omega
      go_wp2
      go_returns
      rw [HE4.out]
      refine ⟨rfl, ?_, (HK.out.mono (by simp)).trans (HKK.out.mono (by simp))⟩
      have hok := HOK.out
      rw [HE4.out] at hok
      refine ⟨hok, ?_, ?_, ⟨Wf, ?_, fun i s hs => by cases hs⟩, ?_, hp⟩
      · show Blk _ g #[.slice (some ⟨bk, 0, none⟩) D1.n D1.n, .slice (some ⟨bw, 0, none⟩) D1.n D1.n, .slice (some ⟨bl, 0, none⟩) D1.n D1.n, .bool D1.down, .int .i64 (D1.done : Int), .int .i64 (D1.left : Int), .bool D1.cut] 63
        rw [HDN.out]; exact HBX.out
      · show RowN _ bk _ D1.n (fun i => .string (str (d.sec i)))
        rw [HDN.out]; exact HKP.out.congr fun i hi => by unfold rfK; rw [if_pos hi]
      · show RowN _ bw _ D1.n _
        rw [HDN.out]; exact HWF.out
      · show RowN _ bl _ D1.n (fun i => .bool false)
        rw [HDN.out]; exact HLP.out.congr fun i hi => by unfold rfL; rw [if_pos hi]
end Go.Proofs.Ytldecmodhppjpaa

