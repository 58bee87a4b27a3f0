/-
  Layer 9: numbers put as bytes, the lowest first: table.put, at int64 and at int: what it answers, of numbers that are not negative. Assumed: that the numbers lie in memory, and that the bytes lie in memory of one's own.
-/
import Derived.Test.YtbjaieopjkbijaaDoorTbR

namespace Go.Proofs.YtbjaieopjkbijaaDoor
open Go.RowKit
set_option maxRecDepth 100000

def nums (ns : List Nat) : List Value := ns.map fun (n : Nat) => Value.int .i64 (n : Int)
/-- a slice does not lie in this memory of one's own -/
def Off (v : Value) (A : Option Addr) : Prop := ∀ g ad, v.ownBlock = some g → A = some ad → ad.block ≠ g
theorem Off.next {v v' : Value} {A : Option Addr} {s : Nat} (h : Off v A) (hv : v'.ownBlock = v.ownBlock ∨ v'.ownBlock = some s) (hA : ∀ ad, A = some ad → ad.block < s) : Off v' A := fun g ad hg ha => by
  rcases hv with hv | hv
  · exact h g ad (hv ▸ hg) ha
  · rw [hv] at hg
    injection hg with hg
    have := hA ad ha
    omega
theorem Lies.grownOff {w w' : World} {v : Value} {A : Option Addr} {xs : List Value} (h : Lies w A xs) (hg : w.grownBy w' v.ownBlock) (ho : Off v A) : Lies w' A xs := by
  rcases h with h | ⟨ad, rfl, hb, hc⟩
  · exact .inl h
  · refine .inr ⟨ad, rfl, Nat.lt_of_lt_of_le hb hg.size, fun j u hu => ?_⟩
    have e : w'.heap[(ad.add j).block]? = w.heap[(ad.add j).block]? := by
      rw [addr_block]
      exact hg.block _ hb fun e => ho _ _ e.symm rfl rfl
    exact (World.cell?_of_block e).trans (hc j u hu)
/-- memory of one's own that has grown: what else there was is as it was -/
def Grew (w : World) (v : Value) (w' : World) (v' : Value) : Prop := w.heap.size ≤ w'.heap.size ∧ (∀ u, u < w.heap.size → v.ownBlock ≠ some u → w'.heap[u]? = w.heap[u]?) ∧ (v'.ownBlock = v.ownBlock ∨ ∃ s, w.heap.size ≤ s ∧ v'.ownBlock = some s)
theorem Grew.refl (w : World) (v : Value) : Grew w v w v := ⟨Nat.le_refl _, fun _ _ _ => rfl, .inl rfl⟩
theorem Grew.alloc {w w' : World} {v v' : Value} (h : Grew w v w' v') (o : Obj) : Grew w v (w'.alloc o) v' := by
  refine ⟨by have := h.1; simp; omega, fun u hu hn => ?_, h.2.2⟩
  rw [heap_alloc_old w' o (Nat.lt_of_lt_of_le hu h.1)]
  exact h.2.1 u hu hn
theorem Grew.step {w w' w2 : World} {v v' v2 : Value} (h : Grew w v w' v') (hg : w'.grownBy w2 v'.ownBlock) (hat : v2.ownBlock = v'.ownBlock ∨ v2.ownBlock = some w'.heap.size) : Grew w v w2 v2 := by
  obtain ⟨h1, h2, h3⟩ := h
  refine ⟨Nat.le_trans h1 hg.size, fun u hu hn => ?_, ?_⟩
  · refine (hg.block u (Nat.lt_of_lt_of_le hu h1) (fun e => ?_)).trans (h2 u hu hn)
    rcases h3 with h3 | ⟨s, hs, h3⟩
    · exact hn (h3 ▸ e.symm)
    · rw [h3] at e; injection e with e; omega
  · rcases hat with hat | hat
    · rw [hat]; exact h3
    · exact .inr ⟨_, h1, hat⟩
theorem Grew.blk {w w' : World} {v v' : Value} (h : Grew w v w' v') {g : Nat} {cs : Array Value} {t : TypeId} (hb : Blk w g cs t) (hn : v.ownBlock ≠ some g) : Blk w' g cs t := (h.2.1 g hb.lt hn).trans hb
theorem Off.fresh {w : World} {B n : Nat} {e : TypeId} {v : Value} {xs : List Value} (h : w.ownsRow B e 1 v n xs) : Off v (some ⟨w.heap.size, 0, none⟩) := fun g ad hg ha => by
  have := (h.lt g hg).2
  injection ha with ha
  subst ha
  show w.heap.size ≠ g
  omega
theorem byte_z (x i : Nat) : (x : Int) / 2 ^ (8 * i) % 256 = ((UInt8.ofNat (x / 256 ^ i)).toNat : Int) := by
  rw [UInt8.toNat_ofNat', show (256 : Nat) ^ i = 2 ^ (8 * i) by rw [Nat.pow_mul]]
  push_cast
  rfl
theorem le_snoc : ∀ (i n : Nat), Tb.le (i + 1) n = Tb.le i n ++ [UInt8.ofNat (n / 256 ^ i)]
  | 0, n => by simp [Tb.le]
  | i + 1, n => by
    rw [Tb.le, le_snoc i, Tb.le, List.cons_append, Nat.div_div_eq_div_mul, show (256 : Nat) ^ (i + 1) = 256 * 256 ^ i by rw [Nat.pow_succ, Nat.mul_comm]]

set_option maxHeartbeats 2000000 in
/-- put: behind bytes of one's own, each number's bytes -/
theorem put_L (B k L m cap : Nat) (hk : k ≤ 4) (v : Value) (bs : List UInt8) (A : Option Addr) (ns : List Nat) (w : World) (hB : B ≤ w.heap.size) (hL : bs.length = L) (hL9 : L ≤ 64) (hm : ns.length = m) (hm2 : m ≤ 2) (hown : w.ownsRow B 5 1 v L (cells bs)) (hA : Lies w A (nums ns)) (hoff : Off v A) :
    Calls Tryd.prog 35 #[v, .int .i64 (k : Int), .slice A m cap] w fun e w' => ∃ v', e = .returned v' ∧ w'.ownsRow B 5 1 v' (L + m * k) (cells (bs ++ ns.flatMap (Tb.le k))) ∧ Below B w w' ∧ Grew w v w' v' := by
  obtain ⟨i0, hi, hz0, hz1, hz2⟩ := info_parts infoU8
  have HOWN := Lib.hid hown
  have HA := Lib.hid hA
  have HL := Lib.hid hL
  have HM := Lib.hid hm
  have HOFF := Lib.hid hoff
  obtain ⟨A0, cap0, rfl, -, -, -, -⟩ := own_form hown
  clear hown hA hL hm hoff
  go_enter Tryd.func35, Tryd.ntmps35
  go_wp2_with fail
  go_loopw [0, 12] (fun vb vj wr => ∃ j : Nat, vj = .int .i64 j ∧ j ≤ m ∧ wr.ownsRow B 5 1 vb (L + j * k) (cells (bs ++ (ns.take j).flatMap (Tb.le k))) ∧ Lies wr A (nums ns) ∧ Off vb A ∧ Below B w wr ∧ Grew w (.slice A0 L cap0) wr vb) (fun _ vj _ => m - (intOf vj).toNat)
  case atStart => exact ⟨0, rfl, by omega, by simpa using HOWN.out, HA.out, HOFF.out, Below.refl _ _, Grew.refl _ _⟩
  case round =>
    obtain ⟨j, rfl, hj, hown, hA, hoff, hbr, hgr⟩ := hrel
    have HGR := Lib.hid hgr
    clear hgr
    have HOW := Lib.hid hown
    have HLA := Lib.hid hA
    have HOF := Lib.hid hoff
    by_cases hjm : j < m
    · have hjl : j < ns.length := by have := HM.out; omega
      obtain ⟨ad, rfl, hadb, hcj⟩ := hA.at_ (k := j) (by unfold nums; rw [List.length_map]; exact hjl)
      have hcj2 : wr.cell? (ad.add j) = some (.int .i64 (ns[j] : Int)) := by rw [hcj]; simp [nums]
      have HX := Lib.hid (show bs ++ (ns.take (j + 1)).flatMap (Tb.le k) = (bs ++ (ns.take j).flatMap (Tb.le k)) ++ Tb.le k ns[j] by rw [List.take_succ_eq_append_getElem hjl, List.flatMap_append, List.append_assoc]; simp)
      generalize bs ++ (ns.take j).flatMap (Tb.le k) = X at *
      generalize ns[j] = x at *
      obtain ⟨AX, capx, rfl, -, -, hXL, -⟩ := own_form hown
      rw [cells_length] at hXL
      have HXL := Lib.hid hXL
      have hjk : j * k ≤ 8 := Nat.le_trans (Nat.mul_le_mul (show j ≤ 2 by omega) hk) (by omega)
      obtain ⟨C, hC⟩ : ∃ C, L + j * k = C := ⟨_, rfl⟩
      have HC := Lib.hid hC
      rw [hC] at HOW HXL HOF HGR
      have HC9 := Lib.hid (show C ≤ 72 by omega)
      have HJM := Lib.hid (show j + 1 ≤ m by omega)
      rw [hC]
      clear hcj hown hA hoff hXL hC hjk
      go_wp2_with fail
      go_loopw [0, 17] (fun vb vi wr => ∃ i : Nat, vi = .int .i64 i ∧ i ≤ k ∧ wr.ownsRow B 5 1 vb (C + i) (cells (X ++ Tb.le i x)) ∧ Lies wr (some ad) (nums ns) ∧ Off vb (some ad) ∧ Below B w wr ∧ Grew w (.slice A0 L cap0) wr vb) (fun _ vi _ => k - (intOf vi).toNat)
      case atStart => exact ⟨0, rfl, by omega, by simpa [Tb.le] using HOW.out, HLA.out, HOF.out, hbr, HGR.out⟩
      case round =>
        obtain ⟨i, rfl, hik, hown, hA, hoff, hbq, hgq⟩ := hrel
        have HGQ := Lib.hid hgq
        clear hgq
        have HOW2 := Lib.hid hown
        have HLA2 := Lib.hid hA
        have HOF2 := Lib.hid hoff
        have hCB := HC9.out
        have hsz : B ≤ wr.heap.size := Nat.le_trans hB hbq.size
        by_cases hi4 : i < k
        · have HV := Lib.hid (show cells (X ++ Tb.le i x) ++ [.int .u8 ((x : Int) / 2 ^ (8 * i) % 256)] = cells (X ++ Tb.le (i + 1) x) by
            rw [le_snoc, ← List.append_assoc, cells_append (X ++ Tb.le i x), byte_z x i]; rfl)
          obtain ⟨AQ, capq, rfl, -, -, -, -⟩ := own_form hown
          generalize hz : (x : Int) / 2 ^ (8 * i) % 256 = z at *
          clear hown hA hoff
          go_wp2_with (at_builtin; refine wpList_app rfl _ _ 25 rfl B 5 i0 (.int .u8 0) Tryd.underlying25 hi hz0 hz1 hz2 rfl (.slice AQ (C + i) capq) (C + i) (cells (X ++ Tb.le i x)) rfl ?a1 (some ⟨wr.heap.size, 0, none⟩) 1 1 [.int .u8 z] rfl rfl ?a2 ?a3 ?a4 ?a5 ?a6)
          case a1 => exact HOW2.out.alloc _
          case a2 => exact Lies.new wr #[.int .u8 z] 5
          case a3 => simp [Value.oneCell']
          case a4 => omega
          case a5 => simp; omega
          case a6 =>
            intro v1 w1 hown1 hg1 hat1
            have hlt := fun g hg => (HOW2.out.lt g hg)
            have b1 : Below B w w1 := (hbq.alloc hsz _).grown hg1 (by simp; omega) (fun g hg => (HOW2.out.lt g hg).1)
            have hl1 : Lies w1 (some ad) (nums ns) := (HLA2.out.keep (by simp) fun p hp => World.cell?_alloc_lt wr _ p hp).grownOff hg1 HOF2.out
            have ho1 : Off v1 (some ad) := by
              refine Off.next HOF2.out hat1 (fun a ha => ?_)
              rcases HLA2.out with h | ⟨a', e, h1, _⟩
              · exfalso
                unfold nums at h
                rw [List.map_eq_nil_iff] at h
                have := HM.out
                rw [h] at this
                simp at this
                have := HJM.out
                omega
              · injection ha with ha; injection e with e; subst ha; subst e; first | omega | (simp; omega)
            rw [HV.out] at hown1
            have HG1 := Lib.hid ((HGQ.out.alloc (.cells #[.int .u8 z] 5)).step hg1 (by simpa using hat1))
            have HO1 := Lib.hid hown1
            have HL1 := Lib.hid hl1
            have HOO := Lib.hid ho1
            have HB1 := Lib.hid b1
            have HII := Lib.hid (show i + 1 ≤ k by omega)
            clear hown1 hl1 ho1 b1 hg1 hat1 hlt
            go_wp2
            go_roundw
            case rel => exact ⟨i + 1, by go_num, HII.out, by rw [← Nat.add_assoc]; exact HO1.out, HL1.out, HOO.out, HB1.out, HG1.out⟩
            case measure => have := HII.out; first | omega | (simp [intOf]; omega)
        · obtain rfl : i = k := by omega
          clear hown hA hoff
          go_wp2
          go_roundw
          case rel => exact ⟨j + 1, by go_num, HJM.out, by rw [HX.out, Nat.add_mul, Nat.one_mul, ← Nat.add_assoc, HC.out]; exact HOW2.out, HLA2.out, HOF2.out, hbq, HGQ.out⟩
          case measure => have := HJM.out; first | omega | (simp [intOf]; omega)
    · obtain rfl : j = m := by omega
      have HTT := Lib.hid (show ns.take j = ns by rw [← HM.out, List.take_length])
      clear hown hA hoff
      go_wp2
      go_ret
      exact ⟨_, rfl, by have := HOW.out; rwa [HTT.out] at this, hbr, HGR.out⟩

set_option maxHeartbeats 2000000 in
/-- put: behind bytes of one's own, each number's bytes -/
theorem put_I (B k L m cap : Nat) (hk : k ≤ 4) (v : Value) (bs : List UInt8) (A : Option Addr) (ns : List Nat) (w : World) (hB : B ≤ w.heap.size) (hL : bs.length = L) (hL9 : L ≤ 64) (hm : ns.length = m) (hm2 : m ≤ 2) (hown : w.ownsRow B 5 1 v L (cells bs)) (hA : Lies w A (nums ns)) (hoff : Off v A) :
    Calls Tryd.prog 36 #[v, .int .i64 (k : Int), .slice A m cap] w fun e w' => ∃ v', e = .returned v' ∧ w'.ownsRow B 5 1 v' (L + m * k) (cells (bs ++ ns.flatMap (Tb.le k))) ∧ Below B w w' ∧ Grew w v w' v' := by
  obtain ⟨i0, hi, hz0, hz1, hz2⟩ := info_parts infoU8
  have HOWN := Lib.hid hown
  have HA := Lib.hid hA
  have HL := Lib.hid hL
  have HM := Lib.hid hm
  have HOFF := Lib.hid hoff
  obtain ⟨A0, cap0, rfl, -, -, -, -⟩ := own_form hown
  clear hown hA hL hm hoff
  go_enter Tryd.func36, Tryd.ntmps36
  go_wp2_with fail
  go_loopw [0, 12] (fun vb vj wr => ∃ j : Nat, vj = .int .i64 j ∧ j ≤ m ∧ wr.ownsRow B 5 1 vb (L + j * k) (cells (bs ++ (ns.take j).flatMap (Tb.le k))) ∧ Lies wr A (nums ns) ∧ Off vb A ∧ Below B w wr ∧ Grew w (.slice A0 L cap0) wr vb) (fun _ vj _ => m - (intOf vj).toNat)
  case atStart => exact ⟨0, rfl, by omega, by simpa using HOWN.out, HA.out, HOFF.out, Below.refl _ _, Grew.refl _ _⟩
  case round =>
    obtain ⟨j, rfl, hj, hown, hA, hoff, hbr, hgr⟩ := hrel
    have HGR := Lib.hid hgr
    clear hgr
    have HOW := Lib.hid hown
    have HLA := Lib.hid hA
    have HOF := Lib.hid hoff
    by_cases hjm : j < m
    · have hjl : j < ns.length := by have := HM.out; omega
      obtain ⟨ad, rfl, hadb, hcj⟩ := hA.at_ (k := j) (by unfold nums; rw [List.length_map]; exact hjl)
      have hcj2 : wr.cell? (ad.add j) = some (.int .i64 (ns[j] : Int)) := by rw [hcj]; simp [nums]
      have HX := Lib.hid (show bs ++ (ns.take (j + 1)).flatMap (Tb.le k) = (bs ++ (ns.take j).flatMap (Tb.le k)) ++ Tb.le k ns[j] by rw [List.take_succ_eq_append_getElem hjl, List.flatMap_append, List.append_assoc]; simp)
      generalize bs ++ (ns.take j).flatMap (Tb.le k) = X at *
      generalize ns[j] = x at *
      obtain ⟨AX, capx, rfl, -, -, hXL, -⟩ := own_form hown
      rw [cells_length] at hXL
      have HXL := Lib.hid hXL
      have hjk : j * k ≤ 8 := Nat.le_trans (Nat.mul_le_mul (show j ≤ 2 by omega) hk) (by omega)
      obtain ⟨C, hC⟩ : ∃ C, L + j * k = C := ⟨_, rfl⟩
      have HC := Lib.hid hC
      rw [hC] at HOW HXL HOF HGR
      have HC9 := Lib.hid (show C ≤ 72 by omega)
      have HJM := Lib.hid (show j + 1 ≤ m by omega)
      rw [hC]
      clear hcj hown hA hoff hXL hC hjk
      go_wp2_with fail
      go_loopw [0, 17] (fun vb vi wr => ∃ i : Nat, vi = .int .i64 i ∧ i ≤ k ∧ wr.ownsRow B 5 1 vb (C + i) (cells (X ++ Tb.le i x)) ∧ Lies wr (some ad) (nums ns) ∧ Off vb (some ad) ∧ Below B w wr ∧ Grew w (.slice A0 L cap0) wr vb) (fun _ vi _ => k - (intOf vi).toNat)
      case atStart => exact ⟨0, rfl, by omega, by simpa [Tb.le] using HOW.out, HLA.out, HOF.out, hbr, HGR.out⟩
      case round =>
        obtain ⟨i, rfl, hik, hown, hA, hoff, hbq, hgq⟩ := hrel
        have HGQ := Lib.hid hgq
        clear hgq
        have HOW2 := Lib.hid hown
        have HLA2 := Lib.hid hA
        have HOF2 := Lib.hid hoff
        have hCB := HC9.out
        have hsz : B ≤ wr.heap.size := Nat.le_trans hB hbq.size
        by_cases hi4 : i < k
        · have HV := Lib.hid (show cells (X ++ Tb.le i x) ++ [.int .u8 ((x : Int) / 2 ^ (8 * i) % 256)] = cells (X ++ Tb.le (i + 1) x) by
            rw [le_snoc, ← List.append_assoc, cells_append (X ++ Tb.le i x), byte_z x i]; rfl)
          obtain ⟨AQ, capq, rfl, -, -, -, -⟩ := own_form hown
          generalize hz : (x : Int) / 2 ^ (8 * i) % 256 = z at *
          clear hown hA hoff
          go_wp2_with (at_builtin; refine wpList_app rfl _ _ 25 rfl B 5 i0 (.int .u8 0) Tryd.underlying25 hi hz0 hz1 hz2 rfl (.slice AQ (C + i) capq) (C + i) (cells (X ++ Tb.le i x)) rfl ?a1 (some ⟨wr.heap.size, 0, none⟩) 1 1 [.int .u8 z] rfl rfl ?a2 ?a3 ?a4 ?a5 ?a6)
          case a1 => exact HOW2.out.alloc _
          case a2 => exact Lies.new wr #[.int .u8 z] 5
          case a3 => simp [Value.oneCell']
          case a4 => omega
          case a5 => simp; omega
          case a6 =>
            intro v1 w1 hown1 hg1 hat1
            have hlt := fun g hg => (HOW2.out.lt g hg)
            have b1 : Below B w w1 := (hbq.alloc hsz _).grown hg1 (by simp; omega) (fun g hg => (HOW2.out.lt g hg).1)
            have hl1 : Lies w1 (some ad) (nums ns) := (HLA2.out.keep (by simp) fun p hp => World.cell?_alloc_lt wr _ p hp).grownOff hg1 HOF2.out
            have ho1 : Off v1 (some ad) := by
              refine Off.next HOF2.out hat1 (fun a ha => ?_)
              rcases HLA2.out with h | ⟨a', e, h1, _⟩
              · exfalso
                unfold nums at h
                rw [List.map_eq_nil_iff] at h
                have := HM.out
                rw [h] at this
                simp at this
                have := HJM.out
                omega
              · injection ha with ha; injection e with e; subst ha; subst e; first | omega | (simp; omega)
            rw [HV.out] at hown1
            have HG1 := Lib.hid ((HGQ.out.alloc (.cells #[.int .u8 z] 5)).step hg1 (by simpa using hat1))
            have HO1 := Lib.hid hown1
            have HL1 := Lib.hid hl1
            have HOO := Lib.hid ho1
            have HB1 := Lib.hid b1
            have HII := Lib.hid (show i + 1 ≤ k by omega)
            clear hown1 hl1 ho1 b1 hg1 hat1 hlt
            go_wp2
            go_roundw
            case rel => exact ⟨i + 1, by go_num, HII.out, by rw [← Nat.add_assoc]; exact HO1.out, HL1.out, HOO.out, HB1.out, HG1.out⟩
            case measure => have := HII.out; first | omega | (simp [intOf]; omega)
        · obtain rfl : i = k := by omega
          clear hown hA hoff
          go_wp2
          go_roundw
          case rel => exact ⟨j + 1, by go_num, HJM.out, by rw [HX.out, Nat.add_mul, Nat.one_mul, ← Nat.add_assoc, HC.out]; exact HOW2.out, HLA2.out, HOF2.out, hbq, HGQ.out⟩
          case measure => have := HJM.out; first | omega | (simp [intOf]; omega)
    · obtain rfl : j = m := by omega
      have HTT := Lib.hid (show ns.take j = ns by rw [← HM.out, List.take_length])
      clear hown hA hoff
      go_wp2
      go_ret
      exact ⟨_, rfl, by have := HOW.out; rwa [HTT.out] at this, hbr, HGR.out⟩

end Go.Proofs.YtbjaieopjkbijaaDoor
