/-
  TbP: Layer 9: numbers put as bytes, the lowest first: table.put, at int64 and at int: what it answers, of numbers that are not negative. Assumed: that the numbers lie in memory, and that the bytes lie in memory of one's own.
  TbQ: Layer 9: table.Put: what it answers, of any table. Assumed: that the extents lie in memory, and that the program's table holds what its text lays there.
  TbT: Layer 9: numbers taken from bytes, the lowest first: table.take, at int64 and at int, one number and two. Assumed: that the bytes, and what the numbers are put into, lie in memory.
-/
import Derived.Test.YtehnhjnkbclnlaaGreatDoorTabA

namespace Go.Proofs.YtehnhjnkbclnlaaGreatDoor
open Go.RowKit
set_option maxRecDepth 100000

def nums9 (ns : List Nat) : List Value := ns.map fun (n : Nat) => Value.int .i64 (n : Int)
/-- a slice does not lie in this memory of one's own -/
def Off9 (v : Value) (A : Option Addr) : Prop := ∀ g ad, v.ownBlock = some g → A = some ad → ad.block ≠ g
theorem Off9.next {v v' : Value} {A : Option Addr} {s : Nat} (h : Off9 v A) (hv : v'.ownBlock = v.ownBlock ∨ v'.ownBlock = some s) (hA : ∀ ad, A = some ad → ad.block < s) : Off9 v' A := fun g ad hg ha => by
  rcases hv with hv | hv
  · exact h g ad (hv ▸ hg) ha
  · rw [hv] at hg
    injection hg with hg
    have := hA ad ha
    omega
theorem Lies.grownOff {w w' : World} {v : Value} {A : Option Addr} {xs : List Value} (h : Lies w A xs) (hg : w.grownBy w' v.ownBlock) (ho : Off9 v A) : Lies w' A xs := by
  rcases h with h | ⟨ad, rfl, hb, hc⟩
  · exact .inl h
  · refine .inr ⟨ad, rfl, Nat.lt_of_lt_of_le hb hg.size, fun j u hu => ?_⟩
    have e : w'.heap[(ad.add j).block]? = w.heap[(ad.add j).block]? := by
      rw [addr_block]
      exact hg.block _ hb fun e => ho _ _ e.symm rfl rfl
    exact (World.cell?_of_block e).trans (hc j u hu)
/-- memory of one's own that has grown: what else there was is as it was -/
def Grew (w : World) (v : Value) (w' : World) (v' : Value) : Prop := w.heap.size ≤ w'.heap.size ∧ (∀ u, u < w.heap.size → v.ownBlock ≠ some u → w'.heap[u]? = w.heap[u]?) ∧ (v'.ownBlock = v.ownBlock ∨ ∃ s, w.heap.size ≤ s ∧ v'.ownBlock = some s)
theorem Grew.refl (w : World) (v : Value) : Grew w v w v := ⟨Nat.le_refl _, fun _ _ _ => rfl, .inl rfl⟩
theorem Grew.alloc {w w' : World} {v v' : Value} (h : Grew w v w' v') (o : Obj) : Grew w v (w'.alloc o) v' := by
  refine ⟨by have := h.1; simp; omega, fun u hu hn => ?_, h.2.2⟩
  rw [heap_alloc_old w' o (Nat.lt_of_lt_of_le hu h.1)]
  exact h.2.1 u hu hn
theorem Grew.step {w w' w2 : World} {v v' v2 : Value} (h : Grew w v w' v') (hg : w'.grownBy w2 v'.ownBlock) (hat : v2.ownBlock = v'.ownBlock ∨ v2.ownBlock = some w'.heap.size) : Grew w v w2 v2 := by
  obtain ⟨h1, h2, h3⟩ := h
  refine ⟨Nat.le_trans h1 hg.size, fun u hu hn => ?_, ?_⟩
  · refine (hg.block u (Nat.lt_of_lt_of_le hu h1) (fun e => ?_)).trans (h2 u hu hn)
    rcases h3 with h3 | ⟨s, hs, h3⟩
    · exact hn (h3 ▸ e.symm)
    · rw [h3] at e; injection e with e; omega
  · rcases hat with hat | hat
    · rw [hat]; exact h3
    · exact .inr ⟨_, h1, hat⟩
theorem Grew.blk {w w' : World} {v v' : Value} (h : Grew w v w' v') {g : Nat} {cs : Array Value} {t : TypeId} (hb : Blk w g cs t) (hn : v.ownBlock ≠ some g) : Blk w' g cs t := (h.2.1 g hb.lt hn).trans hb
theorem Off9.fresh {w : World} {B n : Nat} {e : TypeId} {v : Value} {xs : List Value} (h : w.ownsRow B e 1 v n xs) : Off9 v (some ⟨w.heap.size, 0, none⟩) := fun g ad hg ha => by
  have := (h.lt g hg).2
  injection ha with ha
  subst ha
  show w.heap.size ≠ g
  omega
theorem byte_z (x i : Nat) : (x : Int) / 2 ^ (8 * i) % 256 = ((UInt8.ofNat (x / 256 ^ i)).toNat : Int) := by
  rw [UInt8.toNat_ofNat', show (256 : Nat) ^ i = 2 ^ (8 * i) by rw [Nat.pow_mul]]
  push_cast
  rfl
theorem le_snoc : ∀ (i n : Nat), Tb.le (i + 1) n = Tb.le i n ++ [UInt8.ofNat (n / 256 ^ i)]
  | 0, n => by simp [Tb.le]
  | i + 1, n => by
    rw [Tb.le, le_snoc i, Tb.le, List.cons_append, Nat.div_div_eq_div_mul, show (256 : Nat) ^ (i + 1) = 256 * 256 ^ i by rw [Nat.pow_succ, Nat.mul_comm]]

set_option maxHeartbeats 2000000 in
/-- put: behind bytes of one's own, each number's bytes -/
theorem put_L (B k L m cap : Nat) (hk : k ≤ 4) (v : Value) (bs : List UInt8) (A : Option Addr) (ns : List Nat) (w : World) (hB : B ≤ w.heap.size) (hL : bs.length = L) (hL9 : L ≤ 64) (hm : ns.length = m) (hm2 : m ≤ 2) (hown : w.ownsRow B 5 1 v L (cells bs)) (hA : Lies w A (nums9 ns)) (hoff : Off9 v A) :
    Calls Tryz.prog 54 #[v, .int .i64 (k : Int), .slice A m cap] w fun e w' => ∃ v', e = .returned v' ∧ w'.ownsRow B 5 1 v' (L + m * k) (cells (bs ++ ns.flatMap (Tb.le k))) ∧ Below B w w' ∧ Grew w v w' v' := by
  obtain ⟨i0, hi, hz0, hz1, hz2⟩ := info_parts infoU8
  have HOWN := Lib.hid hown
  have HA := Lib.hid hA
  have HL := Lib.hid hL
  have HM := Lib.hid hm
  have HOFF := Lib.hid hoff
  obtain ⟨A0, cap0, rfl, -, -, -, -⟩ := own_form hown
  clear hown hA hL hm hoff
  go_enter Tryz.func54, Tryz.ntmps54
  go_wp2_with fail
  go_loopw [0, 12] (fun vb vj wr => ∃ j : Nat, vj = .int .i64 j ∧ j ≤ m ∧ wr.ownsRow B 5 1 vb (L + j * k) (cells (bs ++ (ns.take j).flatMap (Tb.le k))) ∧ Lies wr A (nums9 ns) ∧ Off9 vb A ∧ Below B w wr ∧ Grew w (.slice A0 L cap0) wr vb) (fun _ vj _ => m - (intOf vj).toNat)
  case atStart => exact ⟨0, rfl, by omega, by simpa using HOWN.out, HA.out, HOFF.out, Below.refl _ _, Grew.refl _ _⟩
  case round =>
    obtain ⟨j, rfl, hj, hown, hA, hoff, hbr, hgr⟩ := hrel
    have HGR := Lib.hid hgr
    clear hgr
    have HOW := Lib.hid hown
    have HLA := Lib.hid hA
    have HOF := Lib.hid hoff
    by_cases hjm : j < m
    · have hjl : j < ns.length := by have := HM.out; omega
      obtain ⟨ad, rfl, hadb, hcj⟩ := hA.at_ (k := j) (by unfold nums9; rw [List.length_map]; exact hjl)
      have hcj2 : wr.cell? (ad.add j) = some (.int .i64 (ns[j] : Int)) := by rw [hcj]; simp [nums9]
      have HX := Lib.hid (show bs ++ (ns.take (j + 1)).flatMap (Tb.le k) = (bs ++ (ns.take j).flatMap (Tb.le k)) ++ Tb.le k ns[j] by rw [List.take_succ_eq_append_getElem hjl, List.flatMap_append, List.append_assoc]; simp)
      generalize bs ++ (ns.take j).flatMap (Tb.le k) = X at *
      generalize ns[j] = x at *
      obtain ⟨AX, capx, rfl, -, -, hXL, -⟩ := own_form hown
      rw [cells_length] at hXL
      have HXL := Lib.hid hXL
      have hjk : j * k ≤ 8 := Nat.le_trans (Nat.mul_le_mul (show j ≤ 2 by omega) hk) (by omega)
      obtain ⟨C, hC⟩ : ∃ C, L + j * k = C := ⟨_, rfl⟩
      have HC := Lib.hid hC
      rw [hC] at HOW HXL HOF HGR
      have HC9 := Lib.hid (show C ≤ 72 by omega)
      have HJM := Lib.hid (show j + 1 ≤ m by omega)
      rw [hC]
      clear hcj hown hA hoff hXL hC hjk
      go_wp2_with fail
      go_loopw [0, 17] (fun vb vi wr => ∃ i : Nat, vi = .int .i64 i ∧ i ≤ k ∧ wr.ownsRow B 5 1 vb (C + i) (cells (X ++ Tb.le i x)) ∧ Lies wr (some ad) (nums9 ns) ∧ Off9 vb (some ad) ∧ Below B w wr ∧ Grew w (.slice A0 L cap0) wr vb) (fun _ vi _ => k - (intOf vi).toNat)
      case atStart => exact ⟨0, rfl, by omega, by simpa [Tb.le] using HOW.out, HLA.out, HOF.out, hbr, HGR.out⟩
      case round =>
        obtain ⟨i, rfl, hik, hown, hA, hoff, hbq, hgq⟩ := hrel
        have HGQ := Lib.hid hgq
        clear hgq
        have HOW2 := Lib.hid hown
        have HLA2 := Lib.hid hA
        have HOF2 := Lib.hid hoff
        have hCB := HC9.out
        have hsz : B ≤ wr.heap.size := Nat.le_trans hB hbq.size
        by_cases hi4 : i < k
        · have HV := Lib.hid (show cells (X ++ Tb.le i x) ++ [.int .u8 ((x : Int) / 2 ^ (8 * i) % 256)] = cells (X ++ Tb.le (i + 1) x) by
            rw [le_snoc, ← List.append_assoc, cells_append (X ++ Tb.le i x), byte_z x i]; rfl)
          obtain ⟨AQ, capq, rfl, -, -, -, -⟩ := own_form hown
          generalize hz : (x : Int) / 2 ^ (8 * i) % 256 = z at *
          clear hown hA hoff
          go_wp2_with (at_builtin; refine wpList_app rfl _ _ 32 rfl B 5 i0 (.int .u8 0) Tryz.underlying32 hi hz0 hz1 hz2 rfl (.slice AQ (C + i) capq) (C + i) (cells (X ++ Tb.le i x)) rfl ?a1 (some ⟨wr.heap.size, 0, none⟩) 1 1 [.int .u8 z] rfl rfl ?a2 ?a3 ?a4 ?a5 ?a6)
          case a1 => exact HOW2.out.alloc _
          case a2 => exact Lies.new wr #[.int .u8 z] 5
          case a3 => simp [Value.oneCell']
          case a4 => omega
          case a5 => simp; omega
          case a6 =>
            intro v1 w1 hown1 hg1 hat1
            have hlt := fun g hg => (HOW2.out.lt g hg)
            have b1 : Below B w w1 := (hbq.alloc hsz _).grown hg1 (by simp; omega) (fun g hg => (HOW2.out.lt g hg).1)
            have hl1 : Lies w1 (some ad) (nums9 ns) := (HLA2.out.keep (by simp) fun p hp => World.cell?_alloc_lt wr _ p hp).grownOff hg1 HOF2.out
            have ho1 : Off9 v1 (some ad) := by
              refine Off9.next HOF2.out hat1 (fun a ha => ?_)
              rcases HLA2.out with h | ⟨a', e, h1, _⟩
              · exfalso
                unfold nums9 at h
                rw [List.map_eq_nil_iff] at h
                have := HM.out
                rw [h] at this
                simp at this
                have := HJM.out
                omega
              · injection ha with ha; injection e with e; subst ha; subst e; first | omega | (simp; omega)
            rw [HV.out] at hown1
            have HG1 := Lib.hid ((HGQ.out.alloc (.cells #[.int .u8 z] 5)).step hg1 (by simpa using hat1))
            have HO1 := Lib.hid hown1
            have HL1 := Lib.hid hl1
            have HOO := Lib.hid ho1
            have HB1 := Lib.hid b1
            have HII := Lib.hid (show i + 1 ≤ k by omega)
            clear hown1 hl1 ho1 b1 hg1 hat1 hlt
            go_wp2
            go_roundw
            case rel => exact ⟨i + 1, by go_num, HII.out, by rw [← Nat.add_assoc]; exact HO1.out, HL1.out, HOO.out, HB1.out, HG1.out⟩
            case measure => have := HII.out; first | omega | (simp [intOf]; omega)
        · obtain rfl : i = k := by omega
          clear hown hA hoff
          go_wp2
          go_roundw
          case rel => exact ⟨j + 1, by go_num, HJM.out, by rw [HX.out, Nat.add_mul, Nat.one_mul, ← Nat.add_assoc, HC.out]; exact HOW2.out, HLA2.out, HOF2.out, hbq, HGQ.out⟩
          case measure => have := HJM.out; first | omega | (simp [intOf]; omega)
    · obtain rfl : j = m := by omega
      have HTT := Lib.hid (show ns.take j = ns by rw [← HM.out, List.take_length])
      clear hown hA hoff
      go_wp2
      go_ret
      exact ⟨_, rfl, by have := HOW.out; rwa [HTT.out] at this, hbr, HGR.out⟩

set_option maxHeartbeats 2000000 in
/-- put: behind bytes of one's own, each number's bytes -/
theorem put_I (B k L m cap : Nat) (hk : k ≤ 4) (v : Value) (bs : List UInt8) (A : Option Addr) (ns : List Nat) (w : World) (hB : B ≤ w.heap.size) (hL : bs.length = L) (hL9 : L ≤ 64) (hm : ns.length = m) (hm2 : m ≤ 2) (hown : w.ownsRow B 5 1 v L (cells bs)) (hA : Lies w A (nums9 ns)) (hoff : Off9 v A) :
    Calls Tryz.prog 55 #[v, .int .i64 (k : Int), .slice A m cap] w fun e w' => ∃ v', e = .returned v' ∧ w'.ownsRow B 5 1 v' (L + m * k) (cells (bs ++ ns.flatMap (Tb.le k))) ∧ Below B w w' ∧ Grew w v w' v' := by
  obtain ⟨i0, hi, hz0, hz1, hz2⟩ := info_parts infoU8
  have HOWN := Lib.hid hown
  have HA := Lib.hid hA
  have HL := Lib.hid hL
  have HM := Lib.hid hm
  have HOFF := Lib.hid hoff
  obtain ⟨A0, cap0, rfl, -, -, -, -⟩ := own_form hown
  clear hown hA hL hm hoff
  go_enter Tryz.func55, Tryz.ntmps55
  go_wp2_with fail
  go_loopw [0, 12] (fun vb vj wr => ∃ j : Nat, vj = .int .i64 j ∧ j ≤ m ∧ wr.ownsRow B 5 1 vb (L + j * k) (cells (bs ++ (ns.take j).flatMap (Tb.le k))) ∧ Lies wr A (nums9 ns) ∧ Off9 vb A ∧ Below B w wr ∧ Grew w (.slice A0 L cap0) wr vb) (fun _ vj _ => m - (intOf vj).toNat)
  case atStart => exact ⟨0, rfl, by omega, by simpa using HOWN.out, HA.out, HOFF.out, Below.refl _ _, Grew.refl _ _⟩
  case round =>
    obtain ⟨j, rfl, hj, hown, hA, hoff, hbr, hgr⟩ := hrel
    have HGR := Lib.hid hgr
    clear hgr
    have HOW := Lib.hid hown
    have HLA := Lib.hid hA
    have HOF := Lib.hid hoff
    by_cases hjm : j < m
    · have hjl : j < ns.length := by have := HM.out; omega
      obtain ⟨ad, rfl, hadb, hcj⟩ := hA.at_ (k := j) (by unfold nums9; rw [List.length_map]; exact hjl)
      have hcj2 : wr.cell? (ad.add j) = some (.int .i64 (ns[j] : Int)) := by rw [hcj]; simp [nums9]
      have HX := Lib.hid (show bs ++ (ns.take (j + 1)).flatMap (Tb.le k) = (bs ++ (ns.take j).flatMap (Tb.le k)) ++ Tb.le k ns[j] by rw [List.take_succ_eq_append_getElem hjl, List.flatMap_append, List.append_assoc]; simp)
      generalize bs ++ (ns.take j).flatMap (Tb.le k) = X at *
      generalize ns[j] = x at *
      obtain ⟨AX, capx, rfl, -, -, hXL, -⟩ := own_form hown
      rw [cells_length] at hXL
      have HXL := Lib.hid hXL
      have hjk : j * k ≤ 8 := Nat.le_trans (Nat.mul_le_mul (show j ≤ 2 by omega) hk) (by omega)
      obtain ⟨C, hC⟩ : ∃ C, L + j * k = C := ⟨_, rfl⟩
      have HC := Lib.hid hC
      rw [hC] at HOW HXL HOF HGR
      have HC9 := Lib.hid (show C ≤ 72 by omega)
      have HJM := Lib.hid (show j + 1 ≤ m by omega)
      rw [hC]
      clear hcj hown hA hoff hXL hC hjk
      go_wp2_with fail
      go_loopw [0, 17] (fun vb vi wr => ∃ i : Nat, vi = .int .i64 i ∧ i ≤ k ∧ wr.ownsRow B 5 1 vb (C + i) (cells (X ++ Tb.le i x)) ∧ Lies wr (some ad) (nums9 ns) ∧ Off9 vb (some ad) ∧ Below B w wr ∧ Grew w (.slice A0 L cap0) wr vb) (fun _ vi _ => k - (intOf vi).toNat)
      case atStart => exact ⟨0, rfl, by omega, by simpa [Tb.le] using HOW.out, HLA.out, HOF.out, hbr, HGR.out⟩
      case round =>
        obtain ⟨i, rfl, hik, hown, hA, hoff, hbq, hgq⟩ := hrel
        have HGQ := Lib.hid hgq
        clear hgq
        have HOW2 := Lib.hid hown
        have HLA2 := Lib.hid hA
        have HOF2 := Lib.hid hoff
        have hCB := HC9.out
        have hsz : B ≤ wr.heap.size := Nat.le_trans hB hbq.size
        by_cases hi4 : i < k
        · have HV := Lib.hid (show cells (X ++ Tb.le i x) ++ [.int .u8 ((x : Int) / 2 ^ (8 * i) % 256)] = cells (X ++ Tb.le (i + 1) x) by
            rw [le_snoc, ← List.append_assoc, cells_append (X ++ Tb.le i x), byte_z x i]; rfl)
          obtain ⟨AQ, capq, rfl, -, -, -, -⟩ := own_form hown
          generalize hz : (x : Int) / 2 ^ (8 * i) % 256 = z at *
          clear hown hA hoff
          go_wp2_with (at_builtin; refine wpList_app rfl _ _ 32 rfl B 5 i0 (.int .u8 0) Tryz.underlying32 hi hz0 hz1 hz2 rfl (.slice AQ (C + i) capq) (C + i) (cells (X ++ Tb.le i x)) rfl ?a1 (some ⟨wr.heap.size, 0, none⟩) 1 1 [.int .u8 z] rfl rfl ?a2 ?a3 ?a4 ?a5 ?a6)
          case a1 => exact HOW2.out.alloc _
          case a2 => exact Lies.new wr #[.int .u8 z] 5
          case a3 => simp [Value.oneCell']
          case a4 => omega
          case a5 => simp; omega
          case a6 =>
            intro v1 w1 hown1 hg1 hat1
            have hlt := fun g hg => (HOW2.out.lt g hg)
            have b1 : Below B w w1 := (hbq.alloc hsz _).grown hg1 (by simp; omega) (fun g hg => (HOW2.out.lt g hg).1)
            have hl1 : Lies w1 (some ad) (nums9 ns) := (HLA2.out.keep (by simp) fun p hp => World.cell?_alloc_lt wr _ p hp).grownOff hg1 HOF2.out
            have ho1 : Off9 v1 (some ad) := by
              refine Off9.next HOF2.out hat1 (fun a ha => ?_)
              rcases HLA2.out with h | ⟨a', e, h1, _⟩
              · exfalso
                unfold nums9 at h
                rw [List.map_eq_nil_iff] at h
                have := HM.out
                rw [h] at this
                simp at this
                have := HJM.out
                omega
              · injection ha with ha; injection e with e; subst ha; subst e; first | omega | (simp; omega)
            rw [HV.out] at hown1
            have HG1 := Lib.hid ((HGQ.out.alloc (.cells #[.int .u8 z] 5)).step hg1 (by simpa using hat1))
            have HO1 := Lib.hid hown1
            have HL1 := Lib.hid hl1
            have HOO := Lib.hid ho1
            have HB1 := Lib.hid b1
            have HII := Lib.hid (show i + 1 ≤ k by omega)
            clear hown1 hl1 ho1 b1 hg1 hat1 hlt
            go_wp2
            go_roundw
            case rel => exact ⟨i + 1, by go_num, HII.out, by rw [← Nat.add_assoc]; exact HO1.out, HL1.out, HOO.out, HB1.out, HG1.out⟩
            case measure => have := HII.out; first | omega | (simp [intOf]; omega)
        · obtain rfl : i = k := by omega
          clear hown hA hoff
          go_wp2
          go_roundw
          case rel => exact ⟨j + 1, by go_num, HJM.out, by rw [HX.out, Nat.add_mul, Nat.one_mul, ← Nat.add_assoc, HC.out]; exact HOW2.out, HLA2.out, HOF2.out, hbq, HGQ.out⟩
          case measure => have := HJM.out; first | omega | (simp [intOf]; omega)
    · obtain rfl : j = m := by omega
      have HTT := Lib.hid (show ns.take j = ns by rw [← HM.out, List.take_length])
      clear hown hA hoff
      go_wp2
      go_ret
      exact ⟨_, rfl, by have := HOW.out; rwa [HTT.out] at this, hbr, HGR.out⟩

end Go.Proofs.YtehnhjnkbclnlaaGreatDoor

namespace Go.Proofs.YtehnhjnkbclnlaaGreatDoor
open Go.RowKit
set_option maxRecDepth 100000

/-- what table.Put hands back: a sector of its own, or nothing -/
def Gives9T (w : World) (t : Tb.T) (e : Ending) (w' : World) : Prop :=
  Below w.heap.size w w' ∧ ((Tb.right t = true ∧ ∃ g, e = .returned (.slice (some ⟨g, 0, none⟩) 64 64) ∧ w.heap.size ≤ g ∧ Blk w' g (cells (Tb.put t)).toArray 106) ∨ (Tb.right t = false ∧ e = .returned (.slice none 0 0)))
/-- a table's bytes up to its extents -/
def front (gn n o : Nat) : List UInt8 := Tb.le 4 gn ++ (Tb.le 1 n ++ Tb.le 1 o)
theorem bytes_front (gn n o : Nat) (xs : List Tb.Ext) (hn : xs.length = n) (t : Tb.T) (ht : t = ⟨(gn : Int), (o : Int) - 1, xs⟩) : Tb.bytes t = front gn n o ++ Tb.flatE xs := by
  subst ht
  unfold Tb.bytes front
  have e : ((o : Int) - 1 + 1).toNat = o := by omega
  simp only [Int.toNat_natCast, hn, e, Tb.le, List.append_assoc]
  rfl

set_option maxHeartbeats 4000000 in
theorem tput_yes (gn on : Nat) (A : Option Addr) (cap n : Nat) (xs : List Tb.Ext) (w : World) (hn : xs.length = n) (hc : n ≤ cap) (hA : Lies w A (flatX xs)) (hT : Tab w) (hr : Tb.right ⟨(gn : Int), (on : Int) - 1, xs⟩ = true) :
    Calls Tryz.prog 30 #[tabV (gn : Int) ((on : Int) - 1) A n cap] w fun e w' => Below w.heap.size w w' ∧ ∃ g, e = .returned (.slice (some ⟨g, 0, none⟩) 64 64) ∧ w.heap.size ≤ g ∧ Blk w' g (cells (Tb.put ⟨(gn : Int), (on : Int) - 1, xs⟩)).toArray 106 := by
  have hR := Tb.right_iff.1 hr
  have hn8 : n ≤ 8 := by rw [← hn]; exact hR.n2
  have hon : on ≤ 8 := by have := hR.open_lt; simp only at this; omega
  have HOKX := Lib.hid hR.ok
  have HCR := Lib.hid hR.cell
  have HPC := Lib.hid (show Tb.put ⟨(gn : Int), (on : Int) - 1, xs⟩ = Ce.put (gn : Int) 255 (front gn n on ++ Tb.flatE xs) by
    rw [Tb.put_cell hr, bytes_front gn n on xs hn _ rfl])
  have HRG := Lib.hid (fun (W : World) (hA : Lies W A (flatX xs)) => tright_any (gn : Int) ((on : Int) - 1) A cap n xs W hn hc hA)
  rw [hr] at HRG
  have HA := Lib.hid hA
  have HN := Lib.hid hn
  have HT := Lib.hid hT
  have ho1 : (on : Int) - 1 + 1 = (on : Int) := by omega
  have HFL := Lib.hid (show ∀ ys : List Tb.Ext, (front gn n on ++ Tb.flatE ys).length = 6 + ys.length * 6 from fun ys => by
    rw [List.length_append, Tb.flatE_length]; simp [front, Tb.le_length]; omega)
  have HB0 := Lib.hid ((Below.refl w.heap.size w).alloc (Nat.le_refl _) (.cells #[.int .i64 (gn : Int), .int .i64 ((on : Int) - 1), .slice A n cap] 31))
  have HBX := Lib.hid (Blk.new w #[.int .i64 (gn : Int), .int .i64 ((on : Int) - 1), .slice A n cap] 31)
  have HA0 := Lib.hid (hA.below HB0.out)
  generalize Tb.put ⟨(gn : Int), (on : Int) - 1, xs⟩ = PT at *
  clear hA hn hT hr hR
  go_enter Tryz.func30, Tryz.ntmps30
  go_wp2_with fail
  refine (HRG.out _ HA0.out).mono ?_
  rintro e w1 ⟨rfl, d1⟩
  have hb1 := HBX.out.below d1 (Nat.le_refl _)
  have HBX1 := Lib.hid hb1
  have HA1 := Lib.hid (HA0.out.below d1)
  have HB1 := Lib.hid (HB0.out.trans (d1.mono HB0.out.size))
  have HG1 := Lib.hid hb1.lt
  clear d1 HRG HA0 HB0 HBX
  have z0 : w1.cell? ⟨w.heap.size, 0, none⟩ = some (.int .i64 (gn : Int)) := hb1.cell 0
  clear hb1
  go_wp2_with fail
  refine (put_L w1.heap.size 4 0 1 1 (by omega) (.slice none 0 0) [] (some ⟨w1.heap.size, 0, none⟩) [gn] _ (by simp) rfl (by omega) rfl (by omega) (World.ownsRow_nil _ _ _ 1) (Lies.new w1 #[.int .i64 (gn : Int)] 2) (fun g ad hg _ => by simp [Value.ownBlock] at hg)).mono ?_
  rintro e w2 ⟨v2, rfl, hown2, hb2, -⟩
  have b2 : Below w1.heap.size w1 w2 := ((Below.refl _ _).alloc (Nat.le_refl _) _).trans hb2
  have hbx2 := HBX1.out.below b2 (Nat.le_refl _)
  have HBX2 := Lib.hid hbx2
  have HA2 := Lib.hid (HA1.out.below b2)
  have HO2 := Lib.hid (show w2.ownsRow w1.heap.size 5 1 v2 4 (cells (Tb.le 4 gn)) by simpa using hown2)
  have B2 := Lib.hid b2
  clear hown2 hb2 b2 z0
  have z1 : w2.cell? ⟨w.heap.size, 1, none⟩ = some (.int .i64 ((on : Int) - 1)) := hbx2.cell 1
  have z2 : w2.cell? ⟨w.heap.size, 2, none⟩ = some (.slice A n cap) := hbx2.cell 2
  clear hbx2
  have hoz : IntKind.i64.wrap ((on : Int) - 1 + 1) = (on : Int) := by rw [ho1, IntKind.wrap_i64]; omega
  go_wp2_with fail
  refine (put_I w1.heap.size 1 4 2 2 (by omega) v2 (Tb.le 4 gn) (some ⟨w2.heap.size, 0, none⟩) [n, on] _ (by have := B2.out.size; simp; omega) (Tb.le_length _ _) (by omega) rfl (by omega) (HO2.out.alloc _) (Lies.new w2 #[.int .i64 (n : Int), .int .i64 (on : Int)] 3) (Off9.fresh HO2.out)).mono ?_
  rintro e w3 ⟨v3, rfl, hown3, hb3, -⟩
  have b3 : Below w1.heap.size w1 w3 := (B2.out.alloc B2.out.size _).trans hb3
  have hbx3 := HBX1.out.below b3 (Nat.le_refl _)
  have HA3 := Lib.hid (HA1.out.below b3)
  have HO3 := Lib.hid (show w3.ownsRow w1.heap.size 5 1 v3 6 (cells (front gn n on)) by simpa [front] using hown3)
  have B3 := Lib.hid b3
  clear hown3 hb3 b3 z1 z2 hoz
  have z2 : w3.cell? ⟨w.heap.size, 2, none⟩ = some (.slice A n cap) := hbx3.cell 2
  clear hbx3
  go_wp2_with fail
  go_loopw [3, 25] (fun vb vi wr => ∃ i : Nat, vi = .int .i64 i ∧ i ≤ n ∧ wr.ownsRow w1.heap.size 5 1 vb (6 + i * 6) (cells (front gn n on ++ Tb.flatE (xs.take i))) ∧ Below w1.heap.size w1 wr) (fun _ vi _ => n - (intOf vi).toNat)
  case atStart => exact ⟨0, rfl, by omega, by simpa [Tb.flatE] using HO3.out, B3.out⟩
  case round =>
    obtain ⟨i, rfl, hi, hown, hbr⟩ := hrel
    have HOW := Lib.hid hown
    have HSZ := Lib.hid hbr.size
    clear hown
    by_cases hin : i < n
    · have hil : i < xs.length := by have := HN.out; omega
      obtain ⟨ad, rfl, hadb, hcx⟩ := at_ext HA1.out i hil
      obtain ⟨x0, x1⟩ := hcx wr hbr
      have HX := Lib.hid (show front gn n on ++ Tb.flatE (xs.take (i + 1)) = (front gn n on ++ Tb.flatE (xs.take i)) ++ Tb.bytesE xs[i] by
        unfold Tb.flatE
        rw [List.take_succ_eq_append_getElem hil, List.flatMap_append, List.append_assoc, List.flatMap_cons, List.flatMap_nil, List.append_nil])
      have HXL := Lib.hid (show (front gn n on ++ Tb.flatE (xs.take i)).length = 6 + i * 6 by rw [HFL.out, List.length_take, Nat.min_eq_left (by omega)])
      obtain ⟨hq1, hq2, hq3, hq4, -⟩ := Tb.okE_iff.1 (HOKX.out _ (List.getElem_mem hil))
      have HIN := Lib.hid (show i + 1 ≤ n by omega)
      clear hcx
      generalize front gn n on ++ Tb.flatE (xs.take i) = X at *
      generalize xs[i] = x at *
      obtain ⟨xq, xl⟩ := x
      simp only at hq1 hq2 hq3 hq4
      obtain ⟨q, rfl⟩ := Int.eq_ofNat_of_zero_le hq1
      obtain ⟨l, rfl⟩ := Int.eq_ofNat_of_zero_le hq3
      have y0 : wr.cell? (ad.add (i * 2)) = some (.int .i64 (q : Int)) := x0
      have y1 : wr.cell? ⟨(ad.add (i * 2)).block, (ad.add (i * 2)).off + 1, none⟩ = some (.int .i64 (l : Int)) := x1
      have HBE := Lib.hid (show Tb.bytesE ⟨(q : Int), (l : Int)⟩ = Tb.le 4 q ++ Tb.le 2 l by simp [Tb.bytesE])
      have HEX := Lib.hid (Blk.new wr #[.int .i64 (q : Int), .int .i64 (l : Int)] 81)
      have HL9 := Lib.hid (show 6 + i * 6 ≤ 64 ∧ 6 + i * 6 + 4 ≤ 64 by omega)
      clear x0 x1 hq1 hq2 hq3 hq4
      go_wp2_with fail
      refine (put_L w1.heap.size 4 (6 + i * 6) 1 1 (by omega) u3 X (some ⟨wr.heap.size + 1, 0, none⟩) [q] _ (by have := HSZ.out; simp; omega) HXL.out HL9.out.1 rfl (by omega) ((HOW.out.alloc _).alloc _) (by simpa [nums9] using Lies.new (wr.alloc (.cells #[.int .i64 (q : Int), .int .i64 (l : Int)] 81)) #[.int .i64 (q : Int)] 2) (by simpa using Off9.fresh (HOW.out.alloc (.cells #[.int .i64 (q : Int), .int .i64 (l : Int)] 81)))).mono ?_
      rintro e w4 ⟨v4, rfl, hown4, hb4, hg4⟩
      have hex := hg4.blk (((HEX.out.below ((Below.refl _ _).alloc (Nat.le_refl _) (.cells #[.int .i64 (q : Int)] 2)) (Nat.le_refl _)))) (fun e => by have := (HOW.out.lt _ e).2; omega)
      have HO4 := Lib.hid (show w4.ownsRow w1.heap.size 5 1 v4 (6 + i * 6 + 4) (cells (X ++ Tb.le 4 q)) by simpa using hown4)
      have HB4 := Lib.hid (((hbr.alloc HSZ.out (.cells #[.int .i64 (q : Int), .int .i64 (l : Int)] 81)).alloc (by have := HSZ.out; simp; omega) (.cells #[.int .i64 (q : Int)] 2)).trans hb4)
      clear hown4 hb4 hg4 y0 y1
      have e1 : w4.cell? ⟨wr.heap.size, 1, none⟩ = some (.int .i64 (l : Int)) := hex.cell 1
      clear hex
      go_wp2_with fail
      refine (put_I w1.heap.size 2 (6 + i * 6 + 4) 1 1 (by omega) v4 (X ++ Tb.le 4 q) (some ⟨w4.heap.size, 0, none⟩) [l] _ (by have := HB4.out.size; simp; omega) (by rw [List.length_append, HXL.out, Tb.le_length]) HL9.out.2 rfl (by omega) (HO4.out.alloc _) (by simpa [nums9] using Lies.new w4 #[.int .i64 (l : Int)] 3) (Off9.fresh HO4.out)).mono ?_
      rintro e w5 ⟨v5, rfl, hown5, hb5, -⟩
      have HO5 := Lib.hid (show w5.ownsRow w1.heap.size 5 1 v5 (6 + (i + 1) * 6) (cells (front gn n on ++ Tb.flatE (xs.take (i + 1)))) by
        rw [HX.out, HBE.out, ← List.append_assoc, show 6 + (i + 1) * 6 = 6 + i * 6 + 4 + 2 by omega]; simpa using hown5)
      have HB5 := Lib.hid ((HB4.out.alloc HB4.out.size (.cells #[.int .i64 (l : Int)] 3)).trans hb5)
      clear hown5 hb5 e1
      go_wp2
      go_roundw
      case rel => exact ⟨i + 1, by go_num, HIN.out, HO5.out, HB5.out⟩
      case measure => have := HIN.out; first | omega | (simp [intOf]; omega)
    · obtain rfl : i = n := by omega
      have HTT := Lib.hid (show xs.take i = xs by rw [← HN.out, List.take_length])
      have hbx4 := HBX1.out.below hbr (Nat.le_refl _)
      have z0 : wr.cell? ⟨w.heap.size, 0, none⟩ = some (.int .i64 (gn : Int)) := hbx4.cell 0
      obtain ⟨AB, capb, rfl, -, -, -, hlb⟩ := own_form HOW.out
      rw [HTT.out] at hlb
      have HLB := Lib.hid hlb
      have HT4 := Lib.hid (HT.out.below (HB1.out.trans (hbr.mono HB1.out.size)) (Nat.le_refl _))
      have HBR := Lib.hid (HB1.out.trans (hbr.mono HB1.out.size))
      have HLN := Lib.hid (show (front gn i on ++ Tb.flatE xs).length = 6 + i * 6 by rw [HFL.out, HN.out])
      clear hbx4 hlb
      go_wp2_with fail
      refine (cput_yes (gn : Int) 255 AB capb (6 + i * 6) _ wr HLN.out HCR.out (by omega) HLB.out HT4.out).mono ?_
      rintro e w5 ⟨g, rfl, hg, hk, b5⟩
      have HG := Lib.hid (show w.heap.size ≤ g from Nat.le_trans HBR.out.size hg)
      have HK := Lib.hid hk
      have HB5 := Lib.hid (HBR.out.trans (b5.mono HBR.out.size))
      clear hg hk b5 z0
      go_wp2
      go_ret
      exact ⟨HB5.out, g, rfl, HG.out, by rw [HPC.out]; exact HK.out⟩

theorem tput_any (g o : Int) (A : Option Addr) (cap n : Nat) (xs : List Tb.Ext) (w : World) (hn : xs.length = n) (hc : n ≤ cap) (hA : Lies w A (flatX xs)) (hT : Tab w) :
    Calls Tryz.prog 30 #[tabV g o A n cap] w (Gives9T w ⟨g, o, xs⟩) := by
  unfold Gives9T
  by_cases hr : Tb.right ⟨g, o, xs⟩ = true
  · have hR := Tb.right_iff.1 hr
    obtain ⟨gn, rfl⟩ := Int.eq_ofNat_of_zero_le (show 0 ≤ g by have := hR.g1; simp only at this; omega)
    obtain ⟨on, ho⟩ := Int.eq_ofNat_of_zero_le (show 0 ≤ o + 1 by have := hR.open_ge; simp only at this; omega)
    obtain rfl : o = (on : Int) - 1 := by omega
    refine (tput_yes gn on A cap n xs w hn hc hA hT hr).mono ?_
    rintro e w' ⟨hb, h⟩
    exact ⟨hb, .inl ⟨hr, h⟩⟩
  · have HR := Lib.hid (show Tb.right ⟨g, o, xs⟩ = false by simpa using hr)
    have HRG := Lib.hid (fun (W : World) (hA : Lies W A (flatX xs)) => tright_any g o A cap n xs W hn hc hA)
    rw [HR.out] at HRG
    have HB0 := Lib.hid ((Below.refl w.heap.size w).alloc (Nat.le_refl _) (.cells #[.int .i64 g, .int .i64 o, .slice A n cap] 31))
    have HA0 := Lib.hid (hA.below HB0.out)
    clear hr hA hT hn
    go_enter Tryz.func30, Tryz.ntmps30
    go_wp2_with fail
    refine (HRG.out _ HA0.out).mono ?_
    rintro e w1 ⟨rfl, d1⟩
    have HB1 := Lib.hid (HB0.out.trans (d1.mono HB0.out.size))
    clear d1
    go_wp2
    go_ret
    exact ⟨HB1.out, .inr ⟨HR.out, rfl⟩⟩
/-- the same, as a slice that reads as the sector, whatever comes in -/
theorem tput_lies (g o : Int) (A : Option Addr) (cap n L : Nat) (xs : List Tb.Ext) (w : World) (hn : xs.length = n) (hc : n ≤ cap) (hL : (Tb.put ⟨g, o, xs⟩).length = L) (hA : Lies w A (flatX xs)) (hT : Tab w) :
    Calls Tryz.prog 30 #[tabV g o A n cap] w fun e w' => ∃ A' c, e = .returned (.slice A' L c) ∧ Lies w' A' (cells (Tb.put ⟨g, o, xs⟩)) ∧ Below w.heap.size w w' := by
  subst hL
  refine (tput_any g o A cap n xs w hn hc hA hT).mono ?_
  rintro e w' ⟨hb, ⟨h, g', h1, h2, h3⟩ | ⟨h, h1⟩⟩
  · rw [Tb.put_length, if_pos h]
    exact ⟨_, _, h1, h3.liesAll, hb⟩
  · rw [Tb.put_no h]
    exact ⟨_, _, h1, Lies.nil, hb⟩
end Go.Proofs.YtehnhjnkbclnlaaGreatDoor

namespace Go.Proofs.YtehnhjnkbclnlaaGreatDoor
open Go.RowKit
set_option maxRecDepth 100000

theorem slice_upto (W : World) (bb bo m cap k : Nat) (hk : k ≤ m) (hc : m ≤ cap) : (Instr.sliceAt 32 (.slice (some ⟨bb, bo, none⟩) m cap) none (some (.int .i64 (k : Int))) none).run Tryz.prog W = .ok (.slice (some ⟨bb, bo, none⟩) k cap) W := by
  have h3 : ¬ cap < k := by omega
  simp [Instr.sliceAt, Instr.slice, run_underlying Tryz.underlying32, Instr.sliceBounds, Instr.sliceBound, asIntOf, h3, Addr.add]
theorem slice_past (W : World) (bb bo m cap k : Nat) (hk : k < m) (hc : m ≤ cap) : (Instr.sliceAt 32 (.slice (some ⟨bb, bo, none⟩) m cap) (some (.int .i64 (k : Int))) none none).run Tryz.prog W = .ok (.slice (some ⟨bb, bo + k, none⟩) (m - k) (cap - k)) W := by
  obtain ⟨i, hi, hsz⟩ := Option.map_eq_some_iff.1 sizeU8
  have h1 : k ≤ m := by omega
  have h3 : ¬ cap = k := by omega
  simp [Instr.sliceAt, Instr.slice, run_underlying Tryz.underlying32, Instr.sliceBounds, Instr.sliceBound, asIntOf, sizeOf, typeInfo, hi, hsz, h1, h3, Addr.add]
theorem or_i64 (a b : Nat) (ha : a < 4611686018427387904) (hb : b < 4611686018427387904) : bits .or .i64 (a : Int) (b : Int) = ((a ||| b : Nat) : Int) := by
  have hx : a ||| b < 2 ^ 62 := Nat.or_lt_two_pow (by omega) (by omega)
  have e : ∀ c : Nat, c < 4611686018427387904 → (BitVec.ofInt 64 (c : Int)).toNat = c := fun c hc => by
    rw [BitVec.ofInt_natCast, BitVec.toNat_ofNat]; exact Nat.mod_eq_of_lt (by omega)
  show IntKind.i64.wrap ((BitVec.ofInt 64 (a : Int) ||| BitVec.ofInt 64 (b : Int)).toNat : Int) = _
  rw [BitVec.toNat_or, e a ha, e b hb, IntKind.wrap_i64]
  omega
/-- one more byte joins the ones below it -/
theorem join8 (acc c k : Nat) (hk : k < 4) (ha : acc < 256 ^ k) (hc : c < 256) : bits .or .i64 (acc : Int) (wrap64 ((c : Int) * 2 ^ (8 * k))) = ((acc + c * 256 ^ k : Nat) : Int) := by
  have p8 : (2 : Nat) ^ (8 * k) = 256 ^ k := by rw [Nat.pow_mul]
  have e : ((c : Int) * 2 ^ (8 * k)) = ((c * 256 ^ k : Nat) : Int) := by
    rw [← p8, Int.natCast_mul, Int.natCast_pow]; rfl
  have hp : 256 ^ k ≤ 16777216 := by
    have : 256 ^ k ≤ 256 ^ 3 := Nat.pow_le_pow_right (by omega) (by omega)
    omega
  have hcp : c * 256 ^ k ≤ 255 * 16777216 := Nat.mul_le_mul (by omega) hp
  have hj : c * 256 ^ k ||| acc = c * 256 ^ k + acc := by
    have h := Nat.two_pow_add_eq_or_of_lt (i := 8 * k) (b := acc) (by rw [p8]; exact ha) c
    rw [p8, Nat.mul_comm] at h
    exact h.symm
  rw [e, IntWalk.wrap64_in _ (by omega), or_i64 _ _ (by omega) (by omega), Nat.or_comm, hj, Nat.add_comm]
theorem num_snoc : ∀ (l : List UInt8) (c : UInt8), Tb.num (l ++ [c]) = Tb.num l + c.toNat * 256 ^ l.length
  | [], c => by simp [Tb.num]
  | b :: r, c => by
    rw [List.cons_append, Tb.num, num_snoc r c, Tb.num, List.length_cons, Nat.mul_add, Nat.pow_succ, ← Nat.add_assoc]
    congr 1
    rw [Nat.mul_comm 256, Nat.mul_assoc]

set_option maxHeartbeats 2000000 in
/-- take: one number -/
theorem take_L (k m cap bb bo g o pc : Nat) (hk : k ≤ 4) (hkm : k < m) (hmc : m ≤ cap) (bs : List UInt8) (hm : bs.length = m) (cs : Array Value) (t : TypeId) (P : Addr) (w : World) (hg : Blk w g cs t) (ho : o < cs.size) (hv : ∃ x, w.cell? ⟨g, o, none⟩ = some (.int .i64 x))
    (hb : ∀ W, Kept [g] w W → W.rangeAt bb bo (cells bs)) (hP : w.cell? P = some (.pointer (some ⟨g, o, none⟩))) :
    Calls Tryz.prog 72 #[.slice (some ⟨bb, bo, none⟩) m cap, .int .i64 (k : Int), .slice (some P) 1 pc] w fun e w' => e = .returned (.slice (some ⟨bb, bo + k, none⟩) (m - k) (cap - k)) ∧ Blk w' g (cs.setIfInBounds o (.int .i64 (Tb.num (bs.take k) : Int))) t ∧ Kept [g] w w' := by
  have HM := Lib.hid hm
  have HB := Lib.hid hb
  have HCS := Lib.hid ho
  have HSL := Lib.hid (fun (W : World) => slice_upto W bb bo m cap k (by omega) hmc)
  have HSF := Lib.hid (fun (W : World) => slice_past W bb bo m cap k hkm hmc)
  have hb0 := hg.set o (.int .i64 0)
  have hf0 := hg.frozen o
  have HB0 := Lib.hid hb0
  have hk0 := (Kept.refl [g] w).setCell (p := ⟨g, o, none⟩) (by simp) (.int .i64 0)
  have HK0 := Lib.hid hk0
  have HOV := Lib.hid hv
  obtain ⟨x0, hx0⟩ := hv
  clear hm hb ho hb0 hk0
  go_enter Tryz.func72, Tryz.ntmps72
  go_wp2_with fail
  refine wp_loop_rounds 2 ?_
  rw [rounds_succ]
  have hsl := HSL.out
  go_wp2_with fail
  clear hsl hx0 hf0 hP
  go_loopw [23] (fun vi wr => ∃ i : Nat, vi = .int .i64 i ∧ i ≤ k ∧ Blk wr g (cs.setIfInBounds o (.int .i64 (Tb.num (bs.take i) : Int))) t ∧ Kept [g] w wr) (fun vi _ => k - (intOf vi).toNat)
  case atStart => exact ⟨0, rfl, by omega, by simpa [Tb.num] using HB0.out, HK0.out⟩
  case round =>
    obtain ⟨i, rfl, hik, hbl, hkr⟩ := hrel
    have HBL := Lib.hid hbl
    have HKR := Lib.hid hkr
    by_cases hi4 : i < k
    · have hil : i < bs.length := by have := HM.out; omega
      have hcb : wr.cell? ⟨bb, bo + i, none⟩ = some (.int .u8 ((bs[i]'hil).toNat : Int)) := HB.out wr hkr i _ (by simp [cells, hil])
      have hcg : wr.cell? ⟨g, o, none⟩ = some (.int .i64 (Tb.num (bs.take i) : Int)) := by rw [hbl.cell]; simp [HCS.out]
      have hfg := hbl.frozen o
      have hlt := Tb.num_lt (bs.take i)
      rw [List.length_take, Nat.min_eq_left (by omega)] at hlt
      have hj := join8 (Tb.num (bs.take i)) (bs[i]'hil).toNat i (by omega) hlt (bs[i]'hil).toNat_lt
      have HNX := Lib.hid (show Tb.num (bs.take (i + 1)) = Tb.num (bs.take i) + (bs[i]'hil).toNat * 256 ^ i by
        rw [List.take_succ_eq_append_getElem hil, num_snoc, List.length_take, Nat.min_eq_left (by omega)])
      have HC8 := Lib.hid (bs[i]'hil).toNat_lt
      have hc8 := HC8.out
      generalize (bs[i]'hil).toNat = c at *
      generalize Tb.num (bs.take i) = a at *
      have HII := Lib.hid (show i + 1 ≤ k by omega)
      clear hbl hkr hlt
      go_wp2
      go_region
      go_wp2
      go_roundw
      case rel =>
        have h2 := HBL.out.set o (.int .i64 ((a + c * 256 ^ i : Nat) : Int))
        rw [Array.setIfInBounds_setIfInBounds] at h2
        exact ⟨i + 1, by go_num, HII.out, by rw [HNX.out]; exact h2, (HKR.out.setCell (p := ⟨g, o, none⟩) (by simp) _).one⟩
      case measure => have := HII.out; first | omega | (simp [intOf]; omega)
    · obtain rfl : i = k := by omega
      have hsf := HSF.out
      clear hbl hkr
      go_wp2
      rw [rounds_succ]
      go_wp2
      go_returns
      exact ⟨rfl, HBL.out, HKR.out⟩

set_option maxHeartbeats 2000000 in
/-- take: one number -/
theorem take_I (k m cap bb bo g o pc : Nat) (hk : k ≤ 4) (hkm : k < m) (hmc : m ≤ cap) (bs : List UInt8) (hm : bs.length = m) (cs : Array Value) (t : TypeId) (P : Addr) (w : World) (hg : Blk w g cs t) (ho : o < cs.size) (hv : ∃ x, w.cell? ⟨g, o, none⟩ = some (.int .i64 x))
    (hb : ∀ W, Kept [g] w W → W.rangeAt bb bo (cells bs)) (hP : w.cell? P = some (.pointer (some ⟨g, o, none⟩))) :
    Calls Tryz.prog 73 #[.slice (some ⟨bb, bo, none⟩) m cap, .int .i64 (k : Int), .slice (some P) 1 pc] w fun e w' => e = .returned (.slice (some ⟨bb, bo + k, none⟩) (m - k) (cap - k)) ∧ Blk w' g (cs.setIfInBounds o (.int .i64 (Tb.num (bs.take k) : Int))) t ∧ Kept [g] w w' := by
  have HM := Lib.hid hm
  have HB := Lib.hid hb
  have HCS := Lib.hid ho
  have HSL := Lib.hid (fun (W : World) => slice_upto W bb bo m cap k (by omega) hmc)
  have HSF := Lib.hid (fun (W : World) => slice_past W bb bo m cap k hkm hmc)
  have hb0 := hg.set o (.int .i64 0)
  have hf0 := hg.frozen o
  have HB0 := Lib.hid hb0
  have hk0 := (Kept.refl [g] w).setCell (p := ⟨g, o, none⟩) (by simp) (.int .i64 0)
  have HK0 := Lib.hid hk0
  have HOV := Lib.hid hv
  obtain ⟨x0, hx0⟩ := hv
  clear hm hb ho hb0 hk0
  go_enter Tryz.func73, Tryz.ntmps73
  go_wp2_with fail
  refine wp_loop_rounds 2 ?_
  rw [rounds_succ]
  have hsl := HSL.out
  go_wp2_with fail
  clear hsl hx0 hf0 hP
  go_loopw [23] (fun vi wr => ∃ i : Nat, vi = .int .i64 i ∧ i ≤ k ∧ Blk wr g (cs.setIfInBounds o (.int .i64 (Tb.num (bs.take i) : Int))) t ∧ Kept [g] w wr) (fun vi _ => k - (intOf vi).toNat)
  case atStart => exact ⟨0, rfl, by omega, by simpa [Tb.num] using HB0.out, HK0.out⟩
  case round =>
    obtain ⟨i, rfl, hik, hbl, hkr⟩ := hrel
    have HBL := Lib.hid hbl
    have HKR := Lib.hid hkr
    by_cases hi4 : i < k
    · have hil : i < bs.length := by have := HM.out; omega
      have hcb : wr.cell? ⟨bb, bo + i, none⟩ = some (.int .u8 ((bs[i]'hil).toNat : Int)) := HB.out wr hkr i _ (by simp [cells, hil])
      have hcg : wr.cell? ⟨g, o, none⟩ = some (.int .i64 (Tb.num (bs.take i) : Int)) := by rw [hbl.cell]; simp [HCS.out]
      have hfg := hbl.frozen o
      have hlt := Tb.num_lt (bs.take i)
      rw [List.length_take, Nat.min_eq_left (by omega)] at hlt
      have hj := join8 (Tb.num (bs.take i)) (bs[i]'hil).toNat i (by omega) hlt (bs[i]'hil).toNat_lt
      have HNX := Lib.hid (show Tb.num (bs.take (i + 1)) = Tb.num (bs.take i) + (bs[i]'hil).toNat * 256 ^ i by
        rw [List.take_succ_eq_append_getElem hil, num_snoc, List.length_take, Nat.min_eq_left (by omega)])
      have HC8 := Lib.hid (bs[i]'hil).toNat_lt
      have hc8 := HC8.out
      generalize (bs[i]'hil).toNat = c at *
      generalize Tb.num (bs.take i) = a at *
      have HII := Lib.hid (show i + 1 ≤ k by omega)
      clear hbl hkr hlt
      go_wp2
      go_region
      go_wp2
      go_roundw
      case rel =>
        have h2 := HBL.out.set o (.int .i64 ((a + c * 256 ^ i : Nat) : Int))
        rw [Array.setIfInBounds_setIfInBounds] at h2
        exact ⟨i + 1, by go_num, HII.out, by rw [HNX.out]; exact h2, (HKR.out.setCell (p := ⟨g, o, none⟩) (by simp) _).one⟩
      case measure => have := HII.out; first | omega | (simp [intOf]; omega)
    · obtain rfl : i = k := by omega
      have hsf := HSF.out
      clear hbl hkr
      go_wp2
      rw [rounds_succ]
      go_wp2
      go_returns
      exact ⟨rfl, HBL.out, HKR.out⟩

set_option maxHeartbeats 4000000 in
/-- take: two numbers -/
theorem take_two (k m cap bb bo g1 g2 pc : Nat) (hk : k ≤ 4) (hkm : k + k < m) (hmc : m ≤ cap) (hne : g1 ≠ g2) (bs : List UInt8) (hm : bs.length = m) (cs1 cs2 : Array Value) (t1 t2 : TypeId) (p : Nat) (w : World) (hg1 : Blk w g1 cs1 t1) (hg2 : Blk w g2 cs2 t2) (ho1 : 0 < cs1.size) (ho2 : 0 < cs2.size) (hv1 : ∃ x, w.cell? ⟨g1, 0, none⟩ = some (.int .i64 x)) (hv2 : ∃ x, w.cell? ⟨g2, 0, none⟩ = some (.int .i64 x))
    (hb : ∀ W, Kept [g1, g2] w W → W.rangeAt bb bo (cells bs)) (hP : ∀ W, Kept [g1, g2] w W → W.cell? ⟨p, 0, none⟩ = some (.pointer (some ⟨g1, 0, none⟩)) ∧ W.cell? ⟨p, 1, none⟩ = some (.pointer (some ⟨g2, 0, none⟩))) :
    Calls Tryz.prog 73 #[.slice (some ⟨bb, bo, none⟩) m cap, .int .i64 (k : Int), .slice (some ⟨p, 0, none⟩) 2 pc] w fun e w' => e = .returned (.slice (some ⟨bb, bo + k + k, none⟩) (m - k - k) (cap - k - k)) ∧ Blk w' g1 (cs1.setIfInBounds 0 (.int .i64 (Tb.num (bs.take k) : Int))) t1 ∧ Blk w' g2 (cs2.setIfInBounds 0 (.int .i64 (Tb.num ((bs.drop k).take k) : Int))) t2 ∧ Kept [g1, g2] w w' := by
  have HM := Lib.hid hm
  have HB := Lib.hid hb
  have HP := Lib.hid hP
  have HCS1 := Lib.hid ho1
  have HCS2 := Lib.hid ho2
  have HSL := Lib.hid (fun (W : World) => slice_upto W bb bo m cap k (by omega) hmc)
  have HSF := Lib.hid (fun (W : World) => slice_past W bb bo m cap k (by omega) hmc)
  have HSL2 := Lib.hid (fun (W : World) => slice_upto W bb (bo + k) (m - k) (cap - k) k (by omega) (by omega))
  have HSF2 := Lib.hid (fun (W : World) => slice_past W bb (bo + k) (m - k) (cap - k) k (by omega) (by omega))
  have HG2 := Lib.hid hg2
  have HV2 := Lib.hid hv2
  have hb0 := hg1.set 0 (.int .i64 0)
  have hf0 := hg1.frozen 0
  have HB0 := Lib.hid hb0
  have hk0 := (Kept.refl [g1] w).setCell (p := ⟨g1, 0, none⟩) (by simp) (.int .i64 0)
  have HK0 := Lib.hid hk0
  obtain ⟨x0, hx0⟩ := hv1
  obtain ⟨hp0, -⟩ := hP w (Kept.refl _ _)
  clear hm hb ho1 ho2 hb0 hk0 hg2 hv2 hP
  go_enter Tryz.func73, Tryz.ntmps73
  go_wp2_with fail
  refine wp_loop_rounds 3 ?_
  rw [rounds_succ]
  have hsl := HSL.out
  go_wp2_with fail
  clear hsl hx0 hf0 hp0
  go_loopw [23] (fun vi wr => ∃ i : Nat, vi = .int .i64 i ∧ i ≤ k ∧ Blk wr g1 (cs1.setIfInBounds 0 (.int .i64 (Tb.num (bs.take i) : Int))) t1 ∧ Kept [g1] w wr) (fun vi _ => k - (intOf vi).toNat)
  case atStart => exact ⟨0, rfl, by omega, by simpa [Tb.num] using HB0.out, HK0.out⟩
  case round =>
    obtain ⟨i, rfl, hik, hbl, hkr⟩ := hrel
    have HBL := Lib.hid hbl
    have HKR := Lib.hid hkr
    by_cases hi4 : i < k
    · have hil : i < bs.length := by have := HM.out; omega
      have hcb : wr.cell? ⟨bb, bo + i, none⟩ = some (.int .u8 ((bs[i]'hil).toNat : Int)) := HB.out wr (hkr.mono (by simp)) i _ (by simp [cells, hil])
      have hcg : wr.cell? ⟨g1, 0, none⟩ = some (.int .i64 (Tb.num (bs.take i) : Int)) := by rw [hbl.cell]; simp [HCS1.out]
      have hfg := hbl.frozen 0
      have hlt := Tb.num_lt (bs.take i)
      rw [List.length_take, Nat.min_eq_left (by omega)] at hlt
      have hj := join8 (Tb.num (bs.take i)) (bs[i]'hil).toNat i (by omega) hlt (bs[i]'hil).toNat_lt
      have HNX := Lib.hid (show Tb.num (bs.take (i + 1)) = Tb.num (bs.take i) + (bs[i]'hil).toNat * 256 ^ i by
        rw [List.take_succ_eq_append_getElem hil, num_snoc, List.length_take, Nat.min_eq_left (by omega)])
      have HC8 := Lib.hid (bs[i]'hil).toNat_lt
      have hc8 := HC8.out
      generalize (bs[i]'hil).toNat = c at *
      generalize Tb.num (bs.take i) = a at *
      have HII := Lib.hid (show i + 1 ≤ k by omega)
      clear hbl hkr hlt
      go_wp2
      go_region
      go_wp2
      go_roundw
      case rel =>
        have h2 := HBL.out.set 0 (.int .i64 ((a + c * 256 ^ i : Nat) : Int))
        rw [Array.setIfInBounds_setIfInBounds] at h2
        exact ⟨i + 1, by go_num, HII.out, by rw [HNX.out]; exact h2, (HKR.out.setCell (p := ⟨g1, 0, none⟩) (by simp) _).one⟩
      case measure => have := HII.out; first | omega | (simp [intOf]; omega)
    · obtain rfl : i = k := by omega
      have hsf := HSF.out
      have hsl2 := HSL2.out
      have hg2 := hkr.blk HG2.out (by simpa using hne.symm)
      have hb20 := hg2.set 0 (.int .i64 0)
      have hf20 := hg2.frozen 0
      have HB20 := Lib.hid hb20
      have hk20 := (hkr.mono (S' := [g1, g2]) (by simp)).setCell (p := ⟨g2, 0, none⟩) (by simp) (.int .i64 0)
      have HK20 := Lib.hid hk20
      have HB1 := Lib.hid (show Blk (wr.setCell ⟨g2, 0, none⟩ (.int .i64 0)) g1 (cs1.setIfInBounds 0 (.int .i64 (Tb.num (bs.take i) : Int))) t1 from ((Kept.refl [g2] wr).setCell (p := ⟨g2, 0, none⟩) (by simp) _).blk hbl (by simpa using hne))
      obtain ⟨x2, hx2⟩ : ∃ x, wr.cell? ⟨g2, 0, none⟩ = some (.int .i64 x) := by
        obtain ⟨x, hx⟩ := HV2.out
        exact ⟨x, by rw [hg2.cell, ← HG2.out.cell]; exact hx⟩
      obtain ⟨-, hp1⟩ := HP.out wr (hkr.mono (by simp))
      have HDN := Lib.hid (show ∀ j, j < i → ∃ h : i + j < bs.length, Tb.num ((bs.drop i).take (j + 1)) = Tb.num ((bs.drop i).take j) + (bs[i + j]'h).toNat * 256 ^ j from fun j hj => by
        have h : i + j < bs.length := by have := HM.out; omega
        refine ⟨h, ?_⟩
        rw [List.take_succ_eq_append_getElem (by rw [List.length_drop]; omega), num_snoc, List.length_take, Nat.min_eq_left (by rw [List.length_drop]; omega), List.getElem_drop])
      obtain ⟨a1, ha1⟩ : ∃ a, Tb.num (bs.take i) = a := ⟨_, rfl⟩
      rw [ha1] at HB1
      have HA1 := Lib.hid ha1
      clear ha1 HBL
      clear hbl hkr hg2 hb20 hk20
      go_wp2
      rw [rounds_succ]
      go_wp2_with fail
      clear hsf hsl2 hx2 hp1 hf20
      go_loopw [23] (fun vi wr => ∃ j : Nat, vi = .int .i64 j ∧ j ≤ i ∧ Blk wr g2 (cs2.setIfInBounds 0 (.int .i64 (Tb.num ((bs.drop i).take j) : Int))) t2 ∧ Blk wr g1 (cs1.setIfInBounds 0 (.int .i64 (a1 : Int))) t1 ∧ Kept [g1, g2] w wr) (fun vi _ => i - (intOf vi).toNat)
      case atStart => exact ⟨0, rfl, by omega, by simpa [Tb.num] using HB20.out, HB1.out, HK20.out⟩
      case round =>
        obtain ⟨j, rfl, hji, hbl, hbl1, hkr⟩ := hrel
        have HBL := Lib.hid hbl
        have HBL1 := Lib.hid hbl1
        have HKR := Lib.hid hkr
        by_cases hj4 : j < i
        · obtain ⟨hil, hnx⟩ := HDN.out j hj4
          have hcb : wr.cell? ⟨bb, bo + i + j, none⟩ = some (.int .u8 ((bs[i + j]'hil).toNat : Int)) := by
            have := HB.out wr hkr (i + j) _ (show (cells bs)[i + j]? = some (.int .u8 ((bs[i + j]'hil).toNat : Int)) by simp [cells, hil])
            rwa [← Nat.add_assoc] at this
          have hcg : wr.cell? ⟨g2, 0, none⟩ = some (.int .i64 (Tb.num ((bs.drop i).take j) : Int)) := by rw [hbl.cell]; simp [HCS2.out]
          have hfg := hbl.frozen 0
          have hlt := Tb.num_lt ((bs.drop i).take j)
          rw [List.length_take, List.length_drop, Nat.min_eq_left (by omega)] at hlt
          have hj := join8 (Tb.num ((bs.drop i).take j)) (bs[i + j]'hil).toNat j (by omega) hlt (bs[i + j]'hil).toNat_lt
          have HNX := Lib.hid hnx
          have HC8 := Lib.hid (bs[i + j]'hil).toNat_lt
          have hc8 := HC8.out
          clear hnx
          generalize (bs[i + j]'hil).toNat = c at *
          generalize Tb.num ((bs.drop i).take j) = a at *
          have HII := Lib.hid (show j + 1 ≤ i by omega)
          clear hbl hbl1 hkr hlt
          go_wp2
          go_region
          go_wp2
          go_roundw
          case rel =>
            have h2 := HBL.out.set 0 (.int .i64 ((a + c * 256 ^ j : Nat) : Int))
            rw [Array.setIfInBounds_setIfInBounds] at h2
            have h1 := ((Kept.refl [g2] wr).setCell (p := ⟨g2, 0, none⟩) (by simp) (.int .i64 ((a + c * 256 ^ j : Nat) : Int))).blk HBL1.out (by simpa using hne)
            exact ⟨j + 1, by go_num, HII.out, by rw [HNX.out]; exact h2, h1, (HKR.out.setCell (p := ⟨g2, 0, none⟩) (by simp) _).one⟩
          case measure => have := HII.out; first | omega | (simp [intOf]; omega)
        · obtain rfl : j = i := by omega
          have hsf2 := HSF2.out
          clear hbl hbl1 hkr
          go_wp2
          rw [rounds_succ]
          go_wp2
          go_returns
          exact ⟨rfl, by rw [HA1.out]; exact HBL1.out, HBL.out, HKR.out⟩

end Go.Proofs.YtehnhjnkbclnlaaGreatDoor
