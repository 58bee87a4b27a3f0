/-
  Layer 13, the document's answer (turntableref13): Get: what it answers, of any bytes. Assumed: that the bytes lie in memory and are at most 2^40.
-/
import Derived.Test.YtdfeccmcefcpbaaDoorRp13

namespace Go.Proofs.YtdfeccmcefcpbaaDoor
open Go.RowKit
set_option maxRecDepth 100000

/-- what Get answers: a record, whose spans lie in memory, and a code -/
def RGives13 (w : World) (r : Rc.R × Nat) (e : Ending) (w' : World) : Prop :=
  ∃ A cap, e = .returned (.tuple #[recV r.1 A r.1.sp.length cap, .int .i64 (r.2 : Int)]) ∧ r.1.sp.length ≤ cap ∧ cap ≤ maxLen ∧ Lies w' A (flat r.1.sp) ∧ Fine r.1.sp ∧ Below w.heap.size w w'
theorem six13 {W : World} {b : Nat} {t : TypeId} {v0 v1 v2 v3 v4 v5 : Value} (h : Blk W b #[v0, v1, v2, v3, v4, v5] t) : W.cell? ⟨b, 0, none⟩ = some v0 ∧ W.cell? ⟨b, 1, none⟩ = some v1 ∧ W.cell? ⟨b, 2, none⟩ = some v2 ∧ W.cell? ⟨b, 3, none⟩ = some v3 ∧ W.cell? ⟨b, 4, none⟩ = some v4 ∧ W.cell? ⟨b, 5, none⟩ = some v5 :=
  ⟨Blk.cell h 0, Blk.cell h 1, Blk.cell h 2, Blk.cell h 3, Blk.cell h 4, Blk.cell h 5⟩
theorem six_set (u0 u1 u2 u3 u4 u5 v0 v1 v2 v3 v4 v5 : Value) : ((((((#[u0, u1, u2, u3, u4, u5].setIfInBounds 0 v0).setIfInBounds 1 v1).setIfInBounds 2 v2).setIfInBounds 3 v3).setIfInBounds 4 v4).setIfInBounds 5 v5) = #[v0, v1, v2, v3, v4, v5] := rfl
theorem run_storeR {W : World} {b : Nat} {u0 u1 u2 u3 u4 u5 : Value} (v0 v1 v2 v3 : Int) (v4 : Bool) (A : Option Addr) (n c : Nat) (h : Blk W b #[u0, u1, u2, u3, u4, u5] 24) :
    ∃ W', (Instr.storeAt 24 (.pointer (some ⟨b, 0, none⟩)) (.agg #[.int .i64 v0, .int .i64 v1, .int .i64 v2, .int .i64 v3, .bool v4, .slice A n c])).run Tryd.prog W = .ok () W' ∧ Blk W' b #[.int .i64 v0, .int .i64 v1, .int .i64 v2, .int .i64 v3, .bool v4, .slice A n c] 24 ∧ Kept [b] W W' := by
  obtain ⟨q0, q1, q2, q3, q4, q5⟩ := six13 h
  have f0 := h.frozen 0
  have f1 := h.frozen 1
  have f2 := h.frozen 2
  have f3 := h.frozen 3
  have f4 := h.frozen 4
  have f5 := h.frozen 5
  refine ⟨(((((W.setCell ⟨b, 0, none⟩ (.int .i64 v0)).setCell ⟨b, 1, none⟩ (.int .i64 v1)).setCell ⟨b, 2, none⟩ (.int .i64 v2)).setCell ⟨b, 3, none⟩ (.int .i64 v3)).setCell ⟨b, 4, none⟩ (.bool v4)).setCell ⟨b, 5, none⟩ (.slice A n c), by go_simp, ?_, ?_⟩
  · have hh := (((((h.set 0 (.int .i64 v0)).set 1 (.int .i64 v1)).set 2 (.int .i64 v2)).set 3 (.int .i64 v3)).set 4 (.bool v4)).set 5 (.slice A n c)
    rw [six_set] at hh
    exact hh
  · exact ((((((Kept.refl [b] W).setCell (p := ⟨b, 0, none⟩) (by simp) _).setCell (p := ⟨b, 1, none⟩) (by simp) _).setCell (p := ⟨b, 2, none⟩) (by simp) _).setCell (p := ⟨b, 3, none⟩) (by simp) _).setCell (p := ⟨b, 4, none⟩) (by simp) _).setCell (p := ⟨b, 5, none⟩) (by simp) _
theorem wpList_storeR {w : World} {ops : Array Oper} {rest : List Oper} {o : Oper} {a : Act} {Q : Exit → Act → World → Prop} (hg : o.guard = none) (x y : Operand) (ho : o.op = .store 24 x y) (b : Nat) (hx : a.eval x = .pointer (some ⟨b, 0, none⟩))
    (v0 v1 v2 v3 : Int) (v4 : Bool) (A : Option Addr) (n c : Nat) (hy : a.eval y = .agg #[.int .i64 v0, .int .i64 v1, .int .i64 v2, .int .i64 v3, .bool v4, .slice A n c]) (u0 u1 u2 u3 u4 u5 : Value) (hb : Blk w b #[u0, u1, u2, u3, u4, u5] 24)
    (hK : ∀ w2, Blk w2 b #[.int .i64 v0, .int .i64 v1, .int .i64 v2, .int .i64 v3, .bool v4, .slice A n c] 24 → Kept [b] w w2 → wpList Tryd.prog ops Q rest (a.put o.dst undef) w2) : wpList Tryd.prog ops Q (o :: rest) a w := by
  refine wpList_plain hg fun K hK' => ?_
  obtain ⟨w2, hr, h1, h2⟩ := run_storeR v0 v1 v2 v3 v4 A n c hb
  unfold Oper.wp
  simp [execOp, ho, hx, hy, hr, Result.andThen]
  exact hK' _ _ (hK _ h1 h2)
theorem wpList_storeF {w : World} {ops : Array Oper} {rest : List Oper} {o : Oper} {a : Act} {Q : Exit → Act → World → Prop} (hg : o.guard = none) (t : TypeId) (x y : Operand) (ho : o.op = .store t x y) (b k : Nat) (hx : a.eval x = .pointer (some ⟨b, k, none⟩))
    (v : Value) (hy : a.eval y = v) (cs : Array Value) (T : TypeId) (hb : Blk w b cs T) (hr : (Instr.storeAt t (.pointer (some ⟨b, k, none⟩)) v).run Tryd.prog w = .ok () (w.setCell ⟨b, k, none⟩ v))
    (hK : ∀ w2, Blk w2 b (cs.setIfInBounds k v) T → Kept [b] w w2 → wpList Tryd.prog ops Q rest (a.put o.dst undef) w2) : wpList Tryd.prog ops Q (o :: rest) a w := by
  refine wpList_plain hg fun K hK' => ?_
  unfold Oper.wp
  simp [execOp, ho, hx, hy, hr, Result.andThen]
  exact hK' _ _ (hK _ (hb.set k v) ((Kept.refl _ _).setCell (p := ⟨b, k, none⟩) (by simp) v))

theorem lies_other13 {W W' : World} {g : Nat} {cs : Array Value} {T : TypeId} {A : Option Addr} {l : List Plain.Sp} (h : Lies W A (flat l)) (hb : Blk W g cs T) (hs : cs.size ≤ 6) (hk : Kept [g] W W') : Lies W' A (flat l) := by
  rcases h with h | ⟨ad, e, hlt, hc⟩
  · exact .inl h
  cases hl : l with
  | nil => exact .inl rfl
  | cons y ys =>
    rw [← hl]
    have hne : ad.block ≠ g := fun he => by
      have h6 := hc 6 _ (List.getElem?_eq_getElem (show 6 < (flat l).length by rw [flat_length, hl]; simp; omega))
      have e6 : ad.add 6 = ⟨g, ad.off + 6, none⟩ := by rw [← he]; simp [Addr.add]
      rw [e6, Blk.cell hb, Array.getElem?_eq_none (by omega)] at h6
      simp at h6
    exact .inr ⟨ad, e, Nat.lt_of_lt_of_le hlt hk.size, fun j u hu => (World.cell?_of_block (by rw [addr_block]; exact hk.block _ hlt (by simpa using hne))).trans (hc j u hu)⟩
theorem neqt13 (W : World) (a b : List UInt8) (R : Bool) (h : decide (a = b) = R) : (binOp .neq 9 (.string (str a)) (.string (str b))).run Tryd.prog W = .ok (.bool (!R)) W := by
  rw [← h, ← beq_str]
  generalize str a = x
  generalize str b = y
  go_simp

set_option maxHeartbeats 4000000 in
theorem rget13_empty (A : Option Addr) (n cap : Nat) (w : World) (hn : n = 0) :
    Calls Tryd.prog 13 #[.slice A n cap] w (RGives13 w (Rc.rget [])) := by
  subst hn
  have hbx := Blk.new w #[.int .i64 0, .int .i64 0, .int .i64 0, .int .i64 0, .bool false, .slice none 0 0] 24
  have hB0 : Below w.heap.size w (w.alloc (.cells #[.int .i64 0, .int .i64 0, .int .i64 0, .int .i64 0, .bool false, .slice none 0 0] 24)) := (Below.refl _ _).alloc (Nat.le_refl _) _
  have HB0 := Lib.hid hB0
  have HBX := Lib.hid hbx
  clear hbx hB0
  go_enter Tryd.func13, Tryd.ntmps13
  go_wp2_with (refine wpList_storeR rfl _ _ rfl w.heap.size rfl _ _ _ _ _ _ _ _ rfl _ _ _ _ _ _ HBX.out ?k1)
  case k1 =>
    intro w2 hb2 hk2
    obtain ⟨c0, c1, c2, c3, c4, c5⟩ := six13 hb2
    have HB2 := Lib.hid (Kept.below HB0.out hk2 (by simp))
    clear hb2 hk2
    go_wp2
    refine bodyPost_ret (v := .tuple #[.agg #[.int .i64 0, .int .i64 0, .int .i64 0, .int .i64 0, .bool false, .slice none 0 0], .int .i64 11]) (by simp [results, Tryd.results13, go_sem, c0, c1, c2, c3, c4, c5, Result.andThen]) rfl ?_
    exact ⟨none, 0, rfl, Nat.zero_le _, by unfold maxLen; omega, Lies.nil, fun x hx => by simp [Rc.rget, Rc.zero] at hx, HB2.out⟩

theorem parse_other13 (x : List UInt8) (m : Nat) (hm : (x.getD 0 0).toNat = m) (h1 : m ≠ 1) : Rc.parse x = ⟨(m : Int), ((Plain.get (x.drop 1)).1 : Nat), (if m = 4 ∧ 1 + (Plain.get (x.drop 1)).2.1 < x.length then ((x.getD (1 + (Plain.get (x.drop 1)).2.1) 0).toNat : Nat) else (0 : Nat)), 0, false, []⟩ := by
  unfold Rc.parse
  rw [hm, if_neg h1]

set_option maxHeartbeats 8000000 in
theorem rget13_other (A : Option Addr) (n cap : Nat) (x : List UInt8) (w : World) (hn : x.length = n) (h0 : 0 < n) (hc : n ≤ cap) (hm : cap ≤ maxLen) (hf : n ≤ 1099511627776) (hA : Lies w A (cells x)) (hk1 : (x.getD 0 0).toNat ≠ 1) :
    Calls Tryd.prog 13 #[.slice A n cap] w (RGives13 w (Rc.rget x)) := by
  obtain ⟨m, hmm⟩ : ∃ m, (x.getD 0 0).toNat = m := ⟨_, rfl⟩
  rw [hmm] at hk1
  have hm256 : m < 256 := by rw [← hmm]; exact (x.getD 0 0).toNat_lt
  have hpx := parse_other13 x m hmm hk1
  obtain ⟨ad, rfl, -⟩ := hA.at_ (k := 0) (by rw [cells_length]; omega)
  have HX0 := Lib.hid (fun (u : World) (h : Below w.heap.size w u) => show u.cell? ad = some (.int .u8 (m : Int)) by
    obtain ⟨ad', e, -, h3⟩ := (hA.below h).at_ (k := 0) (by rw [cells_length]; omega)
    injection e with e; subst e
    rw [show ad = ad.add 0 from rfl, h3, ← hmm]
    simp [cells, List.getD_eq_getElem?_getD, List.getElem?_eq_getElem (show 0 < x.length by omega)])
  have hLd := hA.drop (k := 1) (cap := cap) (by rw [cells_length]; omega)
  rw [cells_drop] at hLd
  have hm' := hm
  unfold maxLen at hm'
  have hsl : ∀ W, (Instr.sliceAt 25 (.slice (some ad) n cap) (some (.int .i64 1)) none none).run Tryd.prog W = .ok (.slice (cutA (some ad) cap 1) (n - 1) (cap - 1)) W := fun W => slice_lo (some ad) n cap 1 W (by omega) hc (by omega)
  have hsm := Plain.get_small (x.drop 1)
  rw [List.length_drop, hn] at hsm
  rw [hn] at hpx
  obtain ⟨X, hX⟩ : ∃ X, (Plain.get (x.drop 1)).1 = X := ⟨_, rfl⟩
  obtain ⟨K, hK⟩ : ∃ K, (Plain.get (x.drop 1)).2.1 = K := ⟨_, rfl⟩
  obtain ⟨C, hC⟩ : ∃ C, (Plain.get (x.drop 1)).2.2 = C := ⟨_, rfl⟩
  have HGT := Lib.hid (fun (W : World) (h : Below w.heap.size w W) => rget_is (cutA (some ad) cap 1) (n - 1) (cap - 1) (x.drop 1) W X K C (by rw [List.length_drop, hn]) (by unfold maxLen; omega) (hLd.below h) (by rw [hX]) (by rw [hK]) (by rw [hC]))
  rw [hX, hK] at hsm hpx
  generalize hCA : cutA (some ad) cap 1 = CA at *
  clear hX hK hC hLd hCA
  have hbx := Blk.new w #[.int .i64 0, .int .i64 0, .int .i64 0, .int .i64 0, .bool false, .slice none 0 0] 24
  have hB0 : Below w.heap.size w (w.alloc (.cells #[.int .i64 0, .int .i64 0, .int .i64 0, .int .i64 0, .bool false, .slice none 0 0] 24)) := (Below.refl _ _).alloc (Nat.le_refl _) _
  have hbx4 := Blk.new (w.alloc (.cells #[.int .i64 0, .int .i64 0, .int .i64 0, .int .i64 0, .bool false, .slice none 0 0] 24)) #[.int .i64 0, .int .i64 0, .int .i64 0, .int .i64 0, .bool false, .slice none 0 0] 24
  have hs0 : (w.alloc (.cells #[.int .i64 0, .int .i64 0, .int .i64 0, .int .i64 0, .bool false, .slice none 0 0] 24)).heap.size = w.heap.size + 1 := by simp
  rw [hs0] at hbx4
  have hx0 := HX0.out _ hB0
  have HA := Lib.hid hA
  have HBX := Lib.hid hbx
  have HBX4 := Lib.hid hbx4
  have HB0 := Lib.hid hB0
  have HS0 := Lib.hid hs0
  have HPX := Lib.hid hpx
  have HN := Lib.hid hn
  have HX1 := Lib.hid (show ¬ x = [] from fun h => by rw [h] at hn; simp at hn; omega)
  clear hbx hbx4 hB0 hs0 hA hpx hmm
  have dk : ((m : Int) == 1) = false := by rw [beq_eq_false_iff_ne]; omega
  have dl : ((n : Int) == 0) = false := by rw [beq_eq_false_iff_ne]; omega
  go_enter Tryd.func13, Tryd.ntmps13
  go_wp2_with (first | fail | refine wpList_storeR rfl _ _ rfl (w.heap.size + 1) rfl (m : Int) 0 0 0 false none 0 0 rfl _ _ _ _ _ _ HBX4.out ?k1)
  case k1 =>
    intro w3 hb3 hk3
    have HB3 := Lib.hid (Kept.below (HB0.out.alloc HB0.out.size _) hk3 (by simp))
    have HZ3 := Lib.hid (hk3.blk (show Blk _ w.heap.size #[.int .i64 0, .int .i64 0, .int .i64 0, .int .i64 0, .bool false, .slice none 0 0] 24 from (((Below.refl _ _).alloc (by rw [HS0.out]; exact Nat.le_refl _) _ : Below (w.heap.size + 1) _ _).block w.heap.size (by omega)).trans HBX.out) (by simp))
    obtain ⟨q0, q1, q2, q3, q4, q5⟩ := six13 hb3
    have HBR := Lib.hid hb3
    have dk2 : ((m : Int) != 1) = true := by rw [bne_iff_ne]; omega
    have HGT3 := Lib.hid (HGT.out w3 HB3.out)
    have hf1 := hb3.frozen 1
    clear hb3 hk3 hx0
    go_wp2_with fail
    refine HGT3.out.mono ?_
    rintro e w9 ⟨rfl, rfl⟩
    go_wp2_with (first | fail | refine wpList_storeF rfl _ _ _ rfl (w.heap.size + 1) 1 rfl (.int .i64 (X : Int)) rfl _ _ HBR.out (by go_simp) ?k2)
    case k2 =>
      intro wt hb4 hk4
      have hb4' : Blk wt (w.heap.size + 1) #[.int .i64 (m : Int), .int .i64 (X : Int), .int .i64 0, .int .i64 0, .bool false, .slice none 0 0] 24 := hb4
      have HBT := Lib.hid (Kept.below HB3.out hk4 (by simp))
      have HZ4 := Lib.hid (hk4.blk HZ3.out (by simp))
      have HBR4 := Lib.hid hb4'
      obtain ⟨r0, r1, r2, r3, r4, r5⟩ := six13 hb4'
      have hf2 := hb4'.frozen 2
      clear q0 q1 q2 q3 q4 q5 hf1 hb4 hb4' hk4
      by_cases h4 : m = 4
      · subst h4
        by_cases hK : 1 + K < n
        · obtain ⟨bq, hbq⟩ : ∃ bq, (x.getD (1 + K) 0).toNat = bq := ⟨_, rfl⟩
          have hbq256 : bq < 256 := by rw [← hbq]; exact (x.getD (1 + K) 0).toNat_lt
          have hq : 1 + (K : Int) = ((1 + K : Nat) : Int) := by omega
          have hcq : wt.cell? (ad.add (1 + K)) = some (.int .u8 (bq : Int)) := by
            obtain ⟨ad', e, -, h3⟩ := (HA.out.below HBT.out).at_ (k := 1 + K) (by rw [cells_length, HN.out]; omega)
            injection e with e; subst e
            rw [h3, ← hbq]
            have hlt : 1 + K < x.length := by rw [HN.out]; omega
            simp [cells, List.getD_eq_getElem?_getD, List.getElem?_eq_getElem hlt]
          have HRP := Lib.hid (show Rc.parse x = ⟨(4 : Nat), (X : Int), (bq : Int), 0, false, []⟩ by rw [HPX.out, if_pos ⟨rfl, hK⟩, hbq])
          obtain ⟨q, hqq⟩ : ∃ q, 1 + K = q := ⟨_, rfl⟩
          rw [hqq] at hq hcq hK
          have dq : decide ((q : Int) < (n : Int)) = true := by rw [decide_eq_true_eq]; omega
          clear hqq hbq
          go_wp2_with (first | fail | refine wpList_storeF rfl _ _ _ rfl (w.heap.size + 1) 2 rfl (.int .i64 (bq : Int)) rfl _ _ HBR4.out (by go_simp) ?k3)
          case k3 =>
            clear r0 r1 r2 r3 r4 r5 hf2 hcq
            intro wt hb5 hk5
            have hb5' : Blk wt (w.heap.size + 1) #[.int .i64 (4 : Nat), .int .i64 (X : Int), .int .i64 (bq : Int), .int .i64 0, .bool false, .slice none 0 0] 24 := hb5
            have HBT := Lib.hid (Kept.below HBT.out hk5 (by simp))
            have HZ4 := Lib.hid (hk5.blk HZ4.out (by simp))
            obtain ⟨q0, q1, q2, q3, q4, q5⟩ := six13 hb5'
            clear hb5 hk5
            obtain ⟨r, AA, nn, cc, H44, hR, hnr, hLr, hFr, hcr, hmr⟩ : ∃ (r : Rc.R) (AA : Option Addr) (nn cc : Nat), Blk wt (w.heap.size + 1) (recCs r AA nn cc) 24 ∧ Rc.parse x = r ∧ r.sp.length = nn ∧ Lies wt AA (flat r.sp) ∧ Fine r.sp ∧ nn ≤ cc ∧ cc ≤ maxLen :=
              ⟨⟨(4 : Nat), (X : Int), (bq : Int), 0, false, []⟩, none, 0, 0, hb5', HRP.out, rfl, Lies.nil, fun y hy => by simp at hy, Nat.le_refl _, by unfold maxLen; omega⟩
            clear hb5'
            obtain ⟨kd, id, cl, tk, pn, sp⟩ := r
            simp only [recCs] at H44 hR hnr hLr hFr
            have hrg : Rc.rget x = if Rc.rput ⟨kd, id, cl, tk, pn, sp⟩ = x then (⟨kd, id, cl, tk, pn, sp⟩, 0) else (Rc.zero, 12) := by unfold Rc.rget; rw [if_neg HX1.out, hR]
            obtain ⟨PB, hPB⟩ : ∃ PB, Rc.rput ⟨kd, id, cl, tk, pn, sp⟩ = PB := ⟨_, rfl⟩
            have HP := Lib.hid (fun (W : World) (h : Below wt.heap.size wt W) => rput13_any ⟨kd, id, cl, tk, pn, sp⟩ AA nn cc W hnr (hLr.below h) hFr)
            rw [hPB] at HP hrg
            simp only [recV, recCs] at HP
            obtain ⟨D, hD⟩ : ∃ D, decide (PB = x) = D := ⟨_, rfl⟩
            have NE := Lib.hid (fun (W : World) => neqt13 W PB x D hD)
            have LR := Lib.hid (fun (u : World) (h : Below wt.heap.size wt u) => load_rec13 (six13 ((h.block _ H44.lt).trans H44)).1 (six13 ((h.block _ H44.lt).trans H44)).2.1 (six13 ((h.block _ H44.lt).trans H44)).2.2.1 (six13 ((h.block _ H44.lt).trans H44)).2.2.2.1 (six13 ((h.block _ H44.lt).trans H44)).2.2.2.2.1 (six13 ((h.block _ H44.lt).trans H44)).2.2.2.2.2)
            have CV := Lib.hid (fun (W : World) (h : Below wt.heap.size wt W) => show (convert 25 9 (.slice (some ad) n cap)).run Tryd.prog W = .ok (.string (str x)) W by
              have := conv_str (P := Tryd.prog) (c := cap) (HA.out.below (HBT.out.trans (h.mono HBT.out.size))) 25 5 Tryd.underlying25 Tryd.underlying5 9 Tryd.underlying9
              rwa [HN.out] at this)
            have HRG := Lib.hid (show Rc.rget x = if D = true then (⟨kd, id, cl, tk, pn, sp⟩, 0) else (Rc.zero, 12) by
              rw [hrg, ← hD]
              by_cases h : PB = x <;> simp [h])
            have H4 := Lib.hid H44
            have HLR := Lib.hid hLr
            have HNR := Lib.hid hnr
            have HFR := Lib.hid hFr
            have HMR := Lib.hid (And.intro hcr hmr)
            clear hrg hPB hD H44 hLr hnr hFr hcr hmr hR
            go_wp2
            refine wp_softS (by kernel_rfl) 105 [(97, [4]), (98, [97]), (99, [98]), (100, [0]), (101, [100]), (102, [99, 101])]
              [Fact.is (.agg #[.int .i64 kd, .int .i64 id, .int .i64 cl, .int .i64 tk, .bool pn, .slice AA nn cc]), Fact.own PB, Fact.is (.string (str PB)), Fact.is (.slice (some ad) n cap), Fact.is (.string (str x)), Fact.is (.bool (!D))]
              (by kernel_rfl) rfl rfl ⟨?s0, ?s1, ?s2, ?s3, ?s4, ?s5, trivial⟩ ?fin
            case s0 =>
              intro ρ W hb hc hf hr
              obtain ⟨r4, -⟩ := hr
              have e4 : ρ (.tmp 4) = .pointer (some ⟨w.heap.size + 1, 0, none⟩) := r4
              clear r4
              refine under_none rfl ?_
              exact soft_load e4 (LR.out W (undrew13 hb)) rfl
            case s1 =>
              intro ρ W hb hc hf hr
              obtain ⟨r97, -⟩ := hr
              have e97 : ρ (.tmp 97) = .agg #[.int .i64 kd, .int .i64 id, .int .i64 cl, .int .i64 tk, .bool pn, .slice AA nn cc] := r97
              clear r97
              refine under_none rfl ?_
              exact soft_call1 hf e97 (HP.out W (undrew13 hb)) rfl (by kernel_rfl) made_own
            case s2 =>
              intro ρ W hb hc hf hr
              obtain ⟨r98, -⟩ := hr
              refine under_none rfl ?_
              exact soft_own r98 rfl
            case s3 =>
              intro ρ W hb hc hf hr
              obtain ⟨r0, -⟩ := hr
              have e0 : ρ (.tmp 0) = .slice (some ad) n cap := r0
              clear r0
              refine under_none rfl ?_
              exact ⟨e0, Below.refl _ _⟩
            case s4 =>
              intro ρ W hb hc hf hr
              obtain ⟨r100, -⟩ := hr
              have e100 : ρ (.tmp 100) = .slice (some ad) n cap := r100
              clear r100
              refine under_none rfl ?_
              exact soft_conv e100 (CV.out W (undrew13 hb)) rfl
            case s5 =>
              intro ρ W hb hc hf hr
              obtain ⟨r99, r101, -⟩ := hr
              have e99 : ρ (.tmp 99) = .string (str PB) := r99
              clear r99
              have e101 : ρ (.tmp 101) = .string (str x) := r101
              clear r101
              refine under_none rfl ?_
              exact soft_bin e99 e101 rfl rfl (NE.out W)
            case fin =>
              intro a w1 hb hd hsz hk
              have ea := act_puts hd hsz rfl hk
              have k97 : a.tmps.getD 97 undef = .agg #[.int .i64 kd, .int .i64 id, .int .i64 cl, .int .i64 tk, .bool pn, .slice AA nn cc] := hk 97
              have k98 : (Fact.own PB).φ (a.tmps.getD 98 undef) w1 := hk 98
              have k99 : a.tmps.getD 99 undef = .string (str PB) := hk 99
              have k100 : a.tmps.getD 100 undef = .slice (some ad) n cap := hk 100
              have k101 : a.tmps.getD 101 undef = .string (str x) := hk 101
              have k102 : a.tmps.getD 102 undef = .bool (!D) := hk 102
              clear hk hd hsz
              simp only [List.map_cons, List.map_nil, List.foldl_cons, List.foldl_nil, k97, k99, k100, k101, k102] at ea
              clear k97 k99 k100 k101 k102
              generalize a.tmps.getD 98 undef = v98 at ea k98
              simp only [Act.put, List.setIfInBounds_toArray, List.set_cons_succ, List.set_cons_zero] at ea
              subst ea
              have hb1 : Below wt.heap.size wt w1 := undrew13 hb
              have HB1 := Lib.hid (HBT.out.trans (hb1.mono HBT.out.size))
              have HZ1 := Lib.hid ((hb1.block _ HZ4.out.lt).trans HZ4.out)
              have HL1 := Lib.hid (HLR.out.below hb1)
              obtain ⟨z0, z1, z2, z3, z4, z5⟩ := six13 ((hb1.block _ H4.out.lt).trans H4.out)
              clear hb hb1
              cases D with
              | false =>
                have HRF := Lib.hid (show Rc.rget x = (Rc.zero, 12) by rw [HRG.out]; rfl)
                go_wp2_with (first | fail | refine wpList_storeR rfl _ _ rfl w.heap.size rfl 0 0 0 0 false none 0 0 rfl _ _ _ _ _ _ HZ1.out ?k9)
                case k9 =>
                  intro w6 hb6 hk6
                  obtain ⟨c0, c1, c2, c3, c4, c5⟩ := six13 hb6
                  have HB6 := Lib.hid (Kept.below HB1.out hk6 (by simp))
                  clear hb6 hk6 z0 z1 z2 z3 z4 z5
                  go_wp2
                  refine bodyPost_ret (v := .tuple #[.agg #[.int .i64 0, .int .i64 0, .int .i64 0, .int .i64 0, .bool false, .slice none 0 0], .int .i64 12]) (by simp [results, Tryd.results13, go_sem, c0, c1, c2, c3, c4, c5, Result.andThen]) rfl ?_
                  rw [HRF.out]
                  exact ⟨none, 0, rfl, Nat.zero_le _, by unfold maxLen; omega, Lies.nil, (fun x hx => by simp [Rc.zero] at hx), HB6.out⟩
              | true =>
                have HRF := Lib.hid (show Rc.rget x = (⟨kd, id, cl, tk, pn, sp⟩, 0) by rw [HRG.out]; rfl)
                go_wp2_with (first | fail | refine wpList_storeR rfl _ _ rfl w.heap.size rfl kd id cl tk pn AA nn cc rfl _ _ _ _ _ _ HZ1.out ?k9)
                case k9 =>
                  intro w6 hb6 hk6
                  obtain ⟨c0, c1, c2, c3, c4, c5⟩ := six13 hb6
                  have HB6 := Lib.hid (Kept.below HB1.out hk6 (by simp))
                  have HL6 := Lib.hid (lies_other13 HL1.out HZ1.out (by simp) hk6)
                  clear hb6 hk6 z0 z1 z2 z3 z4 z5
                  go_wp2
                  refine bodyPost_ret (v := .tuple #[.agg #[.int .i64 kd, .int .i64 id, .int .i64 cl, .int .i64 tk, .bool pn, .slice AA nn cc], .int .i64 0]) (by simp [results, Tryd.results13, go_sem, c0, c1, c2, c3, c4, c5, Result.andThen]) rfl ?_
                  rw [HRF.out]
                  exact ⟨AA, cc, by rw [HNR.out]; rfl, by rw [HNR.out]; exact HMR.out.1, HMR.out.2, HL6.out, HFR.out, HB6.out⟩
        · have dq : decide (1 + (K : Int) < (n : Int)) = false := by rw [decide_eq_false_iff_not]; omega
          obtain ⟨r, AA, nn, cc, H44, hR, hnr, hLr, hFr, hcr, hmr⟩ : ∃ (r : Rc.R) (AA : Option Addr) (nn cc : Nat), Blk wt (w.heap.size + 1) (recCs r AA nn cc) 24 ∧ Rc.parse x = r ∧ r.sp.length = nn ∧ Lies wt AA (flat r.sp) ∧ Fine r.sp ∧ nn ≤ cc ∧ cc ≤ maxLen :=
            ⟨⟨(4 : Nat), (X : Int), 0, 0, false, []⟩, none, 0, 0, HBR4.out, by rw [HPX.out, if_neg (fun h => hK h.2)]; rfl, rfl, Lies.nil, fun y hy => by simp at hy, Nat.le_refl _, by unfold maxLen; omega⟩
          clear hK
          obtain ⟨kd, id, cl, tk, pn, sp⟩ := r
          simp only [recCs] at H44 hR hnr hLr hFr
          have hrg : Rc.rget x = if Rc.rput ⟨kd, id, cl, tk, pn, sp⟩ = x then (⟨kd, id, cl, tk, pn, sp⟩, 0) else (Rc.zero, 12) := by unfold Rc.rget; rw [if_neg HX1.out, hR]
          obtain ⟨PB, hPB⟩ : ∃ PB, Rc.rput ⟨kd, id, cl, tk, pn, sp⟩ = PB := ⟨_, rfl⟩
          have HP := Lib.hid (fun (W : World) (h : Below wt.heap.size wt W) => rput13_any ⟨kd, id, cl, tk, pn, sp⟩ AA nn cc W hnr (hLr.below h) hFr)
          rw [hPB] at HP hrg
          simp only [recV, recCs] at HP
          obtain ⟨D, hD⟩ : ∃ D, decide (PB = x) = D := ⟨_, rfl⟩
          have NE := Lib.hid (fun (W : World) => neqt13 W PB x D hD)
          have LR := Lib.hid (fun (u : World) (h : Below wt.heap.size wt u) => load_rec13 (six13 ((h.block _ H44.lt).trans H44)).1 (six13 ((h.block _ H44.lt).trans H44)).2.1 (six13 ((h.block _ H44.lt).trans H44)).2.2.1 (six13 ((h.block _ H44.lt).trans H44)).2.2.2.1 (six13 ((h.block _ H44.lt).trans H44)).2.2.2.2.1 (six13 ((h.block _ H44.lt).trans H44)).2.2.2.2.2)
          have CV := Lib.hid (fun (W : World) (h : Below wt.heap.size wt W) => show (convert 25 9 (.slice (some ad) n cap)).run Tryd.prog W = .ok (.string (str x)) W by
            have := conv_str (P := Tryd.prog) (c := cap) (HA.out.below (HBT.out.trans (h.mono HBT.out.size))) 25 5 Tryd.underlying25 Tryd.underlying5 9 Tryd.underlying9
            rwa [HN.out] at this)
          have HRG := Lib.hid (show Rc.rget x = if D = true then (⟨kd, id, cl, tk, pn, sp⟩, 0) else (Rc.zero, 12) by
            rw [hrg, ← hD]
            by_cases h : PB = x <;> simp [h])
          have H4 := Lib.hid H44
          have HLR := Lib.hid hLr
          have HNR := Lib.hid hnr
          have HFR := Lib.hid hFr
          have HMR := Lib.hid (And.intro hcr hmr)
          clear hrg hPB hD H44 hLr hnr hFr hcr hmr hR
          go_wp2
          refine wp_softS (by kernel_rfl) 105 [(97, [4]), (98, [97]), (99, [98]), (100, [0]), (101, [100]), (102, [99, 101])]
            [Fact.is (.agg #[.int .i64 kd, .int .i64 id, .int .i64 cl, .int .i64 tk, .bool pn, .slice AA nn cc]), Fact.own PB, Fact.is (.string (str PB)), Fact.is (.slice (some ad) n cap), Fact.is (.string (str x)), Fact.is (.bool (!D))]
            (by kernel_rfl) rfl rfl ⟨?s0, ?s1, ?s2, ?s3, ?s4, ?s5, trivial⟩ ?fin
          case s0 =>
            intro ρ W hb hc hf hr
            obtain ⟨r4, -⟩ := hr
            have e4 : ρ (.tmp 4) = .pointer (some ⟨w.heap.size + 1, 0, none⟩) := r4
            clear r4
            refine under_none rfl ?_
            exact soft_load e4 (LR.out W (undrew13 hb)) rfl
          case s1 =>
            intro ρ W hb hc hf hr
            obtain ⟨r97, -⟩ := hr
            have e97 : ρ (.tmp 97) = .agg #[.int .i64 kd, .int .i64 id, .int .i64 cl, .int .i64 tk, .bool pn, .slice AA nn cc] := r97
            clear r97
            refine under_none rfl ?_
            exact soft_call1 hf e97 (HP.out W (undrew13 hb)) rfl (by kernel_rfl) made_own
          case s2 =>
            intro ρ W hb hc hf hr
            obtain ⟨r98, -⟩ := hr
            refine under_none rfl ?_
            exact soft_own r98 rfl
          case s3 =>
            intro ρ W hb hc hf hr
            obtain ⟨r0, -⟩ := hr
            have e0 : ρ (.tmp 0) = .slice (some ad) n cap := r0
            clear r0
            refine under_none rfl ?_
            exact ⟨e0, Below.refl _ _⟩
          case s4 =>
            intro ρ W hb hc hf hr
            obtain ⟨r100, -⟩ := hr
            have e100 : ρ (.tmp 100) = .slice (some ad) n cap := r100
            clear r100
            refine under_none rfl ?_
            exact soft_conv e100 (CV.out W (undrew13 hb)) rfl
          case s5 =>
            intro ρ W hb hc hf hr
            obtain ⟨r99, r101, -⟩ := hr
            have e99 : ρ (.tmp 99) = .string (str PB) := r99
            clear r99
            have e101 : ρ (.tmp 101) = .string (str x) := r101
            clear r101
            refine under_none rfl ?_
            exact soft_bin e99 e101 rfl rfl (NE.out W)
          case fin =>
            intro a w1 hb hd hsz hk
            have ea := act_puts hd hsz rfl hk
            have k97 : a.tmps.getD 97 undef = .agg #[.int .i64 kd, .int .i64 id, .int .i64 cl, .int .i64 tk, .bool pn, .slice AA nn cc] := hk 97
            have k98 : (Fact.own PB).φ (a.tmps.getD 98 undef) w1 := hk 98
            have k99 : a.tmps.getD 99 undef = .string (str PB) := hk 99
            have k100 : a.tmps.getD 100 undef = .slice (some ad) n cap := hk 100
            have k101 : a.tmps.getD 101 undef = .string (str x) := hk 101
            have k102 : a.tmps.getD 102 undef = .bool (!D) := hk 102
            clear hk hd hsz
            simp only [List.map_cons, List.map_nil, List.foldl_cons, List.foldl_nil, k97, k99, k100, k101, k102] at ea
            clear k97 k99 k100 k101 k102
            generalize a.tmps.getD 98 undef = v98 at ea k98
            simp only [Act.put, List.setIfInBounds_toArray, List.set_cons_succ, List.set_cons_zero] at ea
            subst ea
            have hb1 : Below wt.heap.size wt w1 := undrew13 hb
            have HB1 := Lib.hid (HBT.out.trans (hb1.mono HBT.out.size))
            have HZ1 := Lib.hid ((hb1.block _ HZ4.out.lt).trans HZ4.out)
            have HL1 := Lib.hid (HLR.out.below hb1)
            obtain ⟨z0, z1, z2, z3, z4, z5⟩ := six13 ((hb1.block _ H4.out.lt).trans H4.out)
            clear hb hb1
            cases D with
            | false =>
              have HRF := Lib.hid (show Rc.rget x = (Rc.zero, 12) by rw [HRG.out]; rfl)
              go_wp2_with (first | fail | refine wpList_storeR rfl _ _ rfl w.heap.size rfl 0 0 0 0 false none 0 0 rfl _ _ _ _ _ _ HZ1.out ?k9)
              case k9 =>
                intro w6 hb6 hk6
                obtain ⟨c0, c1, c2, c3, c4, c5⟩ := six13 hb6
                have HB6 := Lib.hid (Kept.below HB1.out hk6 (by simp))
                clear hb6 hk6 z0 z1 z2 z3 z4 z5
                go_wp2
                refine bodyPost_ret (v := .tuple #[.agg #[.int .i64 0, .int .i64 0, .int .i64 0, .int .i64 0, .bool false, .slice none 0 0], .int .i64 12]) (by simp [results, Tryd.results13, go_sem, c0, c1, c2, c3, c4, c5, Result.andThen]) rfl ?_
                rw [HRF.out]
                exact ⟨none, 0, rfl, Nat.zero_le _, by unfold maxLen; omega, Lies.nil, (fun x hx => by simp [Rc.zero] at hx), HB6.out⟩
            | true =>
              have HRF := Lib.hid (show Rc.rget x = (⟨kd, id, cl, tk, pn, sp⟩, 0) by rw [HRG.out]; rfl)
              go_wp2_with (first | fail | refine wpList_storeR rfl _ _ rfl w.heap.size rfl kd id cl tk pn AA nn cc rfl _ _ _ _ _ _ HZ1.out ?k9)
              case k9 =>
                intro w6 hb6 hk6
                obtain ⟨c0, c1, c2, c3, c4, c5⟩ := six13 hb6
                have HB6 := Lib.hid (Kept.below HB1.out hk6 (by simp))
                have HL6 := Lib.hid (lies_other13 HL1.out HZ1.out (by simp) hk6)
                clear hb6 hk6 z0 z1 z2 z3 z4 z5
                go_wp2
                refine bodyPost_ret (v := .tuple #[.agg #[.int .i64 kd, .int .i64 id, .int .i64 cl, .int .i64 tk, .bool pn, .slice AA nn cc], .int .i64 0]) (by simp [results, Tryd.results13, go_sem, c0, c1, c2, c3, c4, c5, Result.andThen]) rfl ?_
                rw [HRF.out]
                exact ⟨AA, cc, by rw [HNR.out]; rfl, by rw [HNR.out]; exact HMR.out.1, HMR.out.2, HL6.out, HFR.out, HB6.out⟩
      · have d4 : ((m : Int) == 4) = false := by rw [beq_eq_false_iff_ne]; omega
        obtain ⟨r, AA, nn, cc, H44, hR, hnr, hLr, hFr, hcr, hmr⟩ : ∃ (r : Rc.R) (AA : Option Addr) (nn cc : Nat), Blk wt (w.heap.size + 1) (recCs r AA nn cc) 24 ∧ Rc.parse x = r ∧ r.sp.length = nn ∧ Lies wt AA (flat r.sp) ∧ Fine r.sp ∧ nn ≤ cc ∧ cc ≤ maxLen :=
          ⟨⟨(m : Int), (X : Int), 0, 0, false, []⟩, none, 0, 0, HBR4.out, by rw [HPX.out, if_neg (fun h => h4 h.1)]; rfl, rfl, Lies.nil, fun y hy => by simp at hy, Nat.le_refl _, by unfold maxLen; omega⟩
        clear h4
        obtain ⟨kd, id, cl, tk, pn, sp⟩ := r
        simp only [recCs] at H44 hR hnr hLr hFr
        have hrg : Rc.rget x = if Rc.rput ⟨kd, id, cl, tk, pn, sp⟩ = x then (⟨kd, id, cl, tk, pn, sp⟩, 0) else (Rc.zero, 12) := by unfold Rc.rget; rw [if_neg HX1.out, hR]
        obtain ⟨PB, hPB⟩ : ∃ PB, Rc.rput ⟨kd, id, cl, tk, pn, sp⟩ = PB := ⟨_, rfl⟩
        have HP := Lib.hid (fun (W : World) (h : Below wt.heap.size wt W) => rput13_any ⟨kd, id, cl, tk, pn, sp⟩ AA nn cc W hnr (hLr.below h) hFr)
        rw [hPB] at HP hrg
        simp only [recV, recCs] at HP
        obtain ⟨D, hD⟩ : ∃ D, decide (PB = x) = D := ⟨_, rfl⟩
        have NE := Lib.hid (fun (W : World) => neqt13 W PB x D hD)
        have LR := Lib.hid (fun (u : World) (h : Below wt.heap.size wt u) => load_rec13 (six13 ((h.block _ H44.lt).trans H44)).1 (six13 ((h.block _ H44.lt).trans H44)).2.1 (six13 ((h.block _ H44.lt).trans H44)).2.2.1 (six13 ((h.block _ H44.lt).trans H44)).2.2.2.1 (six13 ((h.block _ H44.lt).trans H44)).2.2.2.2.1 (six13 ((h.block _ H44.lt).trans H44)).2.2.2.2.2)
        have CV := Lib.hid (fun (W : World) (h : Below wt.heap.size wt W) => show (convert 25 9 (.slice (some ad) n cap)).run Tryd.prog W = .ok (.string (str x)) W by
          have := conv_str (P := Tryd.prog) (c := cap) (HA.out.below (HBT.out.trans (h.mono HBT.out.size))) 25 5 Tryd.underlying25 Tryd.underlying5 9 Tryd.underlying9
          rwa [HN.out] at this)
        have HRG := Lib.hid (show Rc.rget x = if D = true then (⟨kd, id, cl, tk, pn, sp⟩, 0) else (Rc.zero, 12) by
          rw [hrg, ← hD]
          by_cases h : PB = x <;> simp [h])
        have H4 := Lib.hid H44
        have HLR := Lib.hid hLr
        have HNR := Lib.hid hnr
        have HFR := Lib.hid hFr
        have HMR := Lib.hid (And.intro hcr hmr)
        clear hrg hPB hD H44 hLr hnr hFr hcr hmr hR
        go_wp2
        refine wp_softS (by kernel_rfl) 105 [(97, [4]), (98, [97]), (99, [98]), (100, [0]), (101, [100]), (102, [99, 101])]
          [Fact.is (.agg #[.int .i64 kd, .int .i64 id, .int .i64 cl, .int .i64 tk, .bool pn, .slice AA nn cc]), Fact.own PB, Fact.is (.string (str PB)), Fact.is (.slice (some ad) n cap), Fact.is (.string (str x)), Fact.is (.bool (!D))]
          (by kernel_rfl) rfl rfl ⟨?s0, ?s1, ?s2, ?s3, ?s4, ?s5, trivial⟩ ?fin
        case s0 =>
          intro ρ W hb hc hf hr
          obtain ⟨r4, -⟩ := hr
          have e4 : ρ (.tmp 4) = .pointer (some ⟨w.heap.size + 1, 0, none⟩) := r4
          clear r4
          refine under_none rfl ?_
          exact soft_load e4 (LR.out W (undrew13 hb)) rfl
        case s1 =>
          intro ρ W hb hc hf hr
          obtain ⟨r97, -⟩ := hr
          have e97 : ρ (.tmp 97) = .agg #[.int .i64 kd, .int .i64 id, .int .i64 cl, .int .i64 tk, .bool pn, .slice AA nn cc] := r97
          clear r97
          refine under_none rfl ?_
          exact soft_call1 hf e97 (HP.out W (undrew13 hb)) rfl (by kernel_rfl) made_own
        case s2 =>
          intro ρ W hb hc hf hr
          obtain ⟨r98, -⟩ := hr
          refine under_none rfl ?_
          exact soft_own r98 rfl
        case s3 =>
          intro ρ W hb hc hf hr
          obtain ⟨r0, -⟩ := hr
          have e0 : ρ (.tmp 0) = .slice (some ad) n cap := r0
          clear r0
          refine under_none rfl ?_
          exact ⟨e0, Below.refl _ _⟩
        case s4 =>
          intro ρ W hb hc hf hr
          obtain ⟨r100, -⟩ := hr
          have e100 : ρ (.tmp 100) = .slice (some ad) n cap := r100
          clear r100
          refine under_none rfl ?_
          exact soft_conv e100 (CV.out W (undrew13 hb)) rfl
        case s5 =>
          intro ρ W hb hc hf hr
          obtain ⟨r99, r101, -⟩ := hr
          have e99 : ρ (.tmp 99) = .string (str PB) := r99
          clear r99
          have e101 : ρ (.tmp 101) = .string (str x) := r101
          clear r101
          refine under_none rfl ?_
          exact soft_bin e99 e101 rfl rfl (NE.out W)
        case fin =>
          intro a w1 hb hd hsz hk
          have ea := act_puts hd hsz rfl hk
          have k97 : a.tmps.getD 97 undef = .agg #[.int .i64 kd, .int .i64 id, .int .i64 cl, .int .i64 tk, .bool pn, .slice AA nn cc] := hk 97
          have k98 : (Fact.own PB).φ (a.tmps.getD 98 undef) w1 := hk 98
          have k99 : a.tmps.getD 99 undef = .string (str PB) := hk 99
          have k100 : a.tmps.getD 100 undef = .slice (some ad) n cap := hk 100
          have k101 : a.tmps.getD 101 undef = .string (str x) := hk 101
          have k102 : a.tmps.getD 102 undef = .bool (!D) := hk 102
          clear hk hd hsz
          simp only [List.map_cons, List.map_nil, List.foldl_cons, List.foldl_nil, k97, k99, k100, k101, k102] at ea
          clear k97 k99 k100 k101 k102
          generalize a.tmps.getD 98 undef = v98 at ea k98
          simp only [Act.put, List.setIfInBounds_toArray, List.set_cons_succ, List.set_cons_zero] at ea
          subst ea
          have hb1 : Below wt.heap.size wt w1 := undrew13 hb
          have HB1 := Lib.hid (HBT.out.trans (hb1.mono HBT.out.size))
          have HZ1 := Lib.hid ((hb1.block _ HZ4.out.lt).trans HZ4.out)
          have HL1 := Lib.hid (HLR.out.below hb1)
          obtain ⟨z0, z1, z2, z3, z4, z5⟩ := six13 ((hb1.block _ H4.out.lt).trans H4.out)
          clear hb hb1
          cases D with
          | false =>
            have HRF := Lib.hid (show Rc.rget x = (Rc.zero, 12) by rw [HRG.out]; rfl)
            go_wp2_with (first | fail | refine wpList_storeR rfl _ _ rfl w.heap.size rfl 0 0 0 0 false none 0 0 rfl _ _ _ _ _ _ HZ1.out ?k9)
            case k9 =>
              intro w6 hb6 hk6
              obtain ⟨c0, c1, c2, c3, c4, c5⟩ := six13 hb6
              have HB6 := Lib.hid (Kept.below HB1.out hk6 (by simp))
              clear hb6 hk6 z0 z1 z2 z3 z4 z5
              go_wp2
              refine bodyPost_ret (v := .tuple #[.agg #[.int .i64 0, .int .i64 0, .int .i64 0, .int .i64 0, .bool false, .slice none 0 0], .int .i64 12]) (by simp [results, Tryd.results13, go_sem, c0, c1, c2, c3, c4, c5, Result.andThen]) rfl ?_
              rw [HRF.out]
              exact ⟨none, 0, rfl, Nat.zero_le _, by unfold maxLen; omega, Lies.nil, (fun x hx => by simp [Rc.zero] at hx), HB6.out⟩
          | true =>
            have HRF := Lib.hid (show Rc.rget x = (⟨kd, id, cl, tk, pn, sp⟩, 0) by rw [HRG.out]; rfl)
            go_wp2_with (first | fail | refine wpList_storeR rfl _ _ rfl w.heap.size rfl kd id cl tk pn AA nn cc rfl _ _ _ _ _ _ HZ1.out ?k9)
            case k9 =>
              intro w6 hb6 hk6
              obtain ⟨c0, c1, c2, c3, c4, c5⟩ := six13 hb6
              have HB6 := Lib.hid (Kept.below HB1.out hk6 (by simp))
              have HL6 := Lib.hid (lies_other13 HL1.out HZ1.out (by simp) hk6)
              clear hb6 hk6 z0 z1 z2 z3 z4 z5
              go_wp2
              refine bodyPost_ret (v := .tuple #[.agg #[.int .i64 kd, .int .i64 id, .int .i64 cl, .int .i64 tk, .bool pn, .slice AA nn cc], .int .i64 0]) (by simp [results, Tryd.results13, go_sem, c0, c1, c2, c3, c4, c5, Result.andThen]) rfl ?_
              rw [HRF.out]
              exact ⟨AA, cc, by rw [HNR.out]; rfl, by rw [HNR.out]; exact HMR.out.1, HMR.out.2, HL6.out, HFR.out, HB6.out⟩

theorem parse_seal13 (x : List UInt8) (h1 : (x.getD 0 0).toNat = 1) : Rc.parse x = if 2 < x.length then
      ⟨1, (((Plain.tget (x.drop (2 + (Plain.get (x.drop 2)).2.1))).1.headD Plain.Sp.zero).t), ((x.getD 1 0).toNat % 8 : Nat), ((Plain.get (x.drop 2)).1 : Nat), decide (8 ≤ (x.getD 1 0).toNat), (Plain.tget (x.drop (2 + (Plain.get (x.drop 2)).2.1))).1⟩
     else ⟨1, 0, 0, 0, false, []⟩ := by
  unfold Rc.parse
  rw [if_pos h1]
theorem tget_fine13 (y : List UInt8) : Fine (Plain.tget y).1 := by
  by_cases h : (Plain.tget y).2 = 0
  · have hb := Plain.tget_back (b := y) (l := (Plain.tget y).1) (Prod.ext rfl h)
    intro z hz
    have := (Plain.Sp.right_iff z).1 (Plain.isT_right hb.1 z hz)
    unfold maxLen; omega
  · rw [Plain.tget_none y h]
    intro z hz; simp at hz

set_option maxHeartbeats 8000000 in
theorem rget13_short (A : Option Addr) (n cap : Nat) (x : List UInt8) (w : World) (hn : x.length = n) (h0 : 0 < n) (h2 : n ≤ 2) (hm : cap ≤ maxLen) (hA : Lies w A (cells x)) (hk1 : (x.getD 0 0).toNat = 1) :
    Calls Tryd.prog 13 #[.slice A n cap] w (RGives13 w (Rc.rget x)) := by
  have hpx := parse_seal13 x hk1
  rw [if_neg (by omega)] at hpx
  obtain ⟨ad, rfl, -⟩ := hA.at_ (k := 0) (by rw [cells_length]; omega)
  have HX0 := Lib.hid (fun (u : World) (h : Below w.heap.size w u) => show u.cell? ad = some (.int .u8 1) by
    obtain ⟨ad', e, -, h3⟩ := (hA.below h).at_ (k := 0) (by rw [cells_length]; omega)
    injection e with e; subst e
    rw [show ad = ad.add 0 from rfl, h3, show (1 : Int) = ((1 : Nat) : Int) from rfl, ← hk1]
    simp [cells, List.getD_eq_getElem?_getD, List.getElem?_eq_getElem (show 0 < x.length by omega)])
  have hm' := hm
  unfold maxLen at hm'
  have hbx := Blk.new w #[.int .i64 0, .int .i64 0, .int .i64 0, .int .i64 0, .bool false, .slice none 0 0] 24
  have hB0 : Below w.heap.size w (w.alloc (.cells #[.int .i64 0, .int .i64 0, .int .i64 0, .int .i64 0, .bool false, .slice none 0 0] 24)) := (Below.refl _ _).alloc (Nat.le_refl _) _
  have hbx4 := Blk.new (w.alloc (.cells #[.int .i64 0, .int .i64 0, .int .i64 0, .int .i64 0, .bool false, .slice none 0 0] 24)) #[.int .i64 0, .int .i64 0, .int .i64 0, .int .i64 0, .bool false, .slice none 0 0] 24
  have hs0 : (w.alloc (.cells #[.int .i64 0, .int .i64 0, .int .i64 0, .int .i64 0, .bool false, .slice none 0 0] 24)).heap.size = w.heap.size + 1 := by simp
  rw [hs0] at hbx4
  have hx0 := HX0.out _ hB0
  have HA := Lib.hid hA
  have HBX := Lib.hid hbx
  have HBX4 := Lib.hid hbx4
  have HB0 := Lib.hid hB0
  have HS0 := Lib.hid hs0
  have HPX := Lib.hid hpx
  have HN := Lib.hid hn
  have HX1 := Lib.hid (show ¬ x = [] from fun h => by rw [h] at hn; simp at hn; omega)
  clear hbx hbx4 hB0 hs0 hA hpx hk1
  have dl : ((n : Int) == 0) = false := by rw [beq_eq_false_iff_ne]; omega
  have d2 : decide ((2 : Int) < (n : Int)) = false := by rw [decide_eq_false_iff_not]; omega
  go_enter Tryd.func13, Tryd.ntmps13
  go_wp2_with (first | fail | refine wpList_storeR rfl _ _ rfl (w.heap.size + 1) rfl 1 0 0 0 false none 0 0 rfl _ _ _ _ _ _ HBX4.out ?k1)
  case k1 =>
    intro wt hb3 hk3
    have HBT := Lib.hid (Kept.below (HB0.out.alloc HB0.out.size _) hk3 (by simp))
    have HZ4 := Lib.hid (hk3.blk (show Blk _ w.heap.size #[.int .i64 0, .int .i64 0, .int .i64 0, .int .i64 0, .bool false, .slice none 0 0] 24 from (((Below.refl _ _).alloc (by rw [HS0.out]; exact Nat.le_refl _) _ : Below (w.heap.size + 1) _ _).block w.heap.size (by omega)).trans HBX.out) (by simp))
    obtain ⟨q0, q1, q2, q3, q4, q5⟩ := six13 hb3
    clear hk3 hx0
    obtain ⟨r, AA, nn, cc, H44, hR, hnr, hLr, hFr, hcr, hmr⟩ : ∃ (r : Rc.R) (AA : Option Addr) (nn cc : Nat), Blk wt (w.heap.size + 1) (recCs r AA nn cc) 24 ∧ Rc.parse x = r ∧ r.sp.length = nn ∧ Lies wt AA (flat r.sp) ∧ Fine r.sp ∧ nn ≤ cc ∧ cc ≤ maxLen :=
      ⟨⟨1, 0, 0, 0, false, []⟩, none, 0, 0, hb3, HPX.out, rfl, Lies.nil, fun y hy => by simp at hy, Nat.le_refl _, by unfold maxLen; omega⟩
    clear hb3
    obtain ⟨kd, id, cl, tk, pn, sp⟩ := r
    simp only [recCs] at H44 hR hnr hLr hFr
    have hrg : Rc.rget x = if Rc.rput ⟨kd, id, cl, tk, pn, sp⟩ = x then (⟨kd, id, cl, tk, pn, sp⟩, 0) else (Rc.zero, 12) := by unfold Rc.rget; rw [if_neg HX1.out, hR]
    obtain ⟨PB, hPB⟩ : ∃ PB, Rc.rput ⟨kd, id, cl, tk, pn, sp⟩ = PB := ⟨_, rfl⟩
    have HP := Lib.hid (fun (W : World) (h : Below wt.heap.size wt W) => rput13_any ⟨kd, id, cl, tk, pn, sp⟩ AA nn cc W hnr (hLr.below h) hFr)
    rw [hPB] at HP hrg
    simp only [recV, recCs] at HP
    obtain ⟨D, hD⟩ : ∃ D, decide (PB = x) = D := ⟨_, rfl⟩
    have NE := Lib.hid (fun (W : World) => neqt13 W PB x D hD)
    have LR := Lib.hid (fun (u : World) (h : Below wt.heap.size wt u) => load_rec13 (six13 ((h.block _ H44.lt).trans H44)).1 (six13 ((h.block _ H44.lt).trans H44)).2.1 (six13 ((h.block _ H44.lt).trans H44)).2.2.1 (six13 ((h.block _ H44.lt).trans H44)).2.2.2.1 (six13 ((h.block _ H44.lt).trans H44)).2.2.2.2.1 (six13 ((h.block _ H44.lt).trans H44)).2.2.2.2.2)
    have CV := Lib.hid (fun (W : World) (h : Below wt.heap.size wt W) => show (convert 25 9 (.slice (some ad) n cap)).run Tryd.prog W = .ok (.string (str x)) W by
      have := conv_str (P := Tryd.prog) (c := cap) (HA.out.below (HBT.out.trans (h.mono HBT.out.size))) 25 5 Tryd.underlying25 Tryd.underlying5 9 Tryd.underlying9
      rwa [HN.out] at this)
    have HRG := Lib.hid (show Rc.rget x = if D = true then (⟨kd, id, cl, tk, pn, sp⟩, 0) else (Rc.zero, 12) by
      rw [hrg, ← hD]
      by_cases h : PB = x <;> simp [h])
    have H4 := Lib.hid H44
    have HLR := Lib.hid hLr
    have HNR := Lib.hid hnr
    have HFR := Lib.hid hFr
    have HMR := Lib.hid (And.intro hcr hmr)
    clear hrg hPB hD H44 hLr hnr hFr hcr hmr hR
    go_wp2
    refine wp_softS (by kernel_rfl) 105 [(97, [4]), (98, [97]), (99, [98]), (100, [0]), (101, [100]), (102, [99, 101])]
      [Fact.is (.agg #[.int .i64 kd, .int .i64 id, .int .i64 cl, .int .i64 tk, .bool pn, .slice AA nn cc]), Fact.own PB, Fact.is (.string (str PB)), Fact.is (.slice (some ad) n cap), Fact.is (.string (str x)), Fact.is (.bool (!D))]
      (by kernel_rfl) rfl rfl ⟨?s0, ?s1, ?s2, ?s3, ?s4, ?s5, trivial⟩ ?fin
    case s0 =>
      intro ρ W hb hc hf hr
      obtain ⟨r4, -⟩ := hr
      have e4 : ρ (.tmp 4) = .pointer (some ⟨w.heap.size + 1, 0, none⟩) := r4
      clear r4
      refine under_none rfl ?_
      exact soft_load e4 (LR.out W (undrew13 hb)) rfl
    case s1 =>
      intro ρ W hb hc hf hr
      obtain ⟨r97, -⟩ := hr
      have e97 : ρ (.tmp 97) = .agg #[.int .i64 kd, .int .i64 id, .int .i64 cl, .int .i64 tk, .bool pn, .slice AA nn cc] := r97
      clear r97
      refine under_none rfl ?_
      exact soft_call1 hf e97 (HP.out W (undrew13 hb)) rfl (by kernel_rfl) made_own
    case s2 =>
      intro ρ W hb hc hf hr
      obtain ⟨r98, -⟩ := hr
      refine under_none rfl ?_
      exact soft_own r98 rfl
    case s3 =>
      intro ρ W hb hc hf hr
      obtain ⟨r0, -⟩ := hr
      have e0 : ρ (.tmp 0) = .slice (some ad) n cap := r0
      clear r0
      refine under_none rfl ?_
      exact ⟨e0, Below.refl _ _⟩
    case s4 =>
      intro ρ W hb hc hf hr
      obtain ⟨r100, -⟩ := hr
      have e100 : ρ (.tmp 100) = .slice (some ad) n cap := r100
      clear r100
      refine under_none rfl ?_
      exact soft_conv e100 (CV.out W (undrew13 hb)) rfl
    case s5 =>
      intro ρ W hb hc hf hr
      obtain ⟨r99, r101, -⟩ := hr
      have e99 : ρ (.tmp 99) = .string (str PB) := r99
      clear r99
      have e101 : ρ (.tmp 101) = .string (str x) := r101
      clear r101
      refine under_none rfl ?_
      exact soft_bin e99 e101 rfl rfl (NE.out W)
    case fin =>
      intro a w1 hb hd hsz hk
      have ea := act_puts hd hsz rfl hk
      have k97 : a.tmps.getD 97 undef = .agg #[.int .i64 kd, .int .i64 id, .int .i64 cl, .int .i64 tk, .bool pn, .slice AA nn cc] := hk 97
      have k98 : (Fact.own PB).φ (a.tmps.getD 98 undef) w1 := hk 98
      have k99 : a.tmps.getD 99 undef = .string (str PB) := hk 99
      have k100 : a.tmps.getD 100 undef = .slice (some ad) n cap := hk 100
      have k101 : a.tmps.getD 101 undef = .string (str x) := hk 101
      have k102 : a.tmps.getD 102 undef = .bool (!D) := hk 102
      clear hk hd hsz
      simp only [List.map_cons, List.map_nil, List.foldl_cons, List.foldl_nil, k97, k99, k100, k101, k102] at ea
      clear k97 k99 k100 k101 k102
      generalize a.tmps.getD 98 undef = v98 at ea k98
      simp only [Act.put, List.setIfInBounds_toArray, List.set_cons_succ, List.set_cons_zero] at ea
      subst ea
      have hb1 : Below wt.heap.size wt w1 := undrew13 hb
      have HB1 := Lib.hid (HBT.out.trans (hb1.mono HBT.out.size))
      have HZ1 := Lib.hid ((hb1.block _ HZ4.out.lt).trans HZ4.out)
      have HL1 := Lib.hid (HLR.out.below hb1)
      obtain ⟨z0, z1, z2, z3, z4, z5⟩ := six13 ((hb1.block _ H4.out.lt).trans H4.out)
      clear hb hb1
      cases D with
      | false =>
        have HRF := Lib.hid (show Rc.rget x = (Rc.zero, 12) by rw [HRG.out]; rfl)
        go_wp2_with (first | fail | refine wpList_storeR rfl _ _ rfl w.heap.size rfl 0 0 0 0 false none 0 0 rfl _ _ _ _ _ _ HZ1.out ?k9)
        case k9 =>
          intro w6 hb6 hk6
          obtain ⟨c0, c1, c2, c3, c4, c5⟩ := six13 hb6
          have HB6 := Lib.hid (Kept.below HB1.out hk6 (by simp))
          clear hb6 hk6 z0 z1 z2 z3 z4 z5
          go_wp2
          refine bodyPost_ret (v := .tuple #[.agg #[.int .i64 0, .int .i64 0, .int .i64 0, .int .i64 0, .bool false, .slice none 0 0], .int .i64 12]) (by simp [results, Tryd.results13, go_sem, c0, c1, c2, c3, c4, c5, Result.andThen]) rfl ?_
          rw [HRF.out]
          exact ⟨none, 0, rfl, Nat.zero_le _, by unfold maxLen; omega, Lies.nil, (fun x hx => by simp [Rc.zero] at hx), HB6.out⟩
      | true =>
        have HRF := Lib.hid (show Rc.rget x = (⟨kd, id, cl, tk, pn, sp⟩, 0) by rw [HRG.out]; rfl)
        go_wp2_with (first | fail | refine wpList_storeR rfl _ _ rfl w.heap.size rfl kd id cl tk pn AA nn cc rfl _ _ _ _ _ _ HZ1.out ?k9)
        case k9 =>
          intro w6 hb6 hk6
          obtain ⟨c0, c1, c2, c3, c4, c5⟩ := six13 hb6
          have HB6 := Lib.hid (Kept.below HB1.out hk6 (by simp))
          have HL6 := Lib.hid (lies_other13 HL1.out HZ1.out (by simp) hk6)
          clear hb6 hk6 z0 z1 z2 z3 z4 z5
          go_wp2
          refine bodyPost_ret (v := .tuple #[.agg #[.int .i64 kd, .int .i64 id, .int .i64 cl, .int .i64 tk, .bool pn, .slice AA nn cc], .int .i64 0]) (by simp [results, Tryd.results13, go_sem, c0, c1, c2, c3, c4, c5, Result.andThen]) rfl ?_
          rw [HRF.out]
          exact ⟨AA, cc, by rw [HNR.out]; rfl, by rw [HNR.out]; exact HMR.out.1, HMR.out.2, HL6.out, HFR.out, HB6.out⟩
end Go.Proofs.YtdfeccmcefcpbaaDoor


