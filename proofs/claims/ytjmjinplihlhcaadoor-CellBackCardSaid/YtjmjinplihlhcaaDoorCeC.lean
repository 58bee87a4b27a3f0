/-
  Layer 8: what cell.Put and cell.Get answer, of any numbers and bytes. Assumed: that the bytes lie in memory, and that the program's table holds what its text lays there.
-/
import Derived.Test.YtjmjinplihlhcaaDoorCeB
import Derived.Stop.BytesEq
import Derived.BigRegion

namespace Go.Proofs.YtjmjinplihlhcaaDoor
open Go.RowKit
set_option maxRecDepth 100000

theorem ne_sec (W : World) (a b : List UInt8) (ha : a.length = 64) (hb : b.length = 64) (B : Bool) (h : (a == b) = !B) : (binOp .neq 37 (secV a) (secV b)).run Tryd.prog W = .ok (.bool B) W := by
  obtain ⟨i, hi, hsz⟩ := Option.map_eq_some_iff.1 sizeU8
  have e := run_equalIn_bytes (P := Tryd.prog) W 9998 37 5 64 Tryd.underlying37 Tryd.underlying5 (fun w => by simp [sizeOf, typeInfo, hi, hsz]) a b ha hb
  have e2 : (Op.equalIn 10000 37 (secV a) (secV b)).run Tryd.prog W = .ok (a == b) W := e
  unfold secV at e2 ⊢
  rw [run_neq_struct, e2, h]
  simp
theorem soft_ne_sec {w : World} {ρ : Operand → Value} {o : Oper} {x y : Operand} {a b : List UInt8} {u : Value} {yt : TypeId} (hx : ρ x = secV a) (hy : ρ y = secV b) (hr : (binOp .neq 37 (secV a) (secV b)).run Tryd.prog w = .ok u w) (ho : o.op = .binOp .neq 37 x y yt) : softUpon Tryd.prog w (Fact.is u) ((execOp ρ o).run Tryd.prog w) := by
  have e : (execOp ρ o).run Tryd.prog w = .ok (.value u) w := by
    have hg := run_eqGuard_agg (P := Tryd.prog) w .neq 37 x y (cells a).toArray (cells b).toArray (by kernel_rfl)
    unfold secV at hx hy hr
    simp [execOp, ho, hx, hy, hg, hr]
  rw [e]
  exact ⟨rfl, Below.refl _ _⟩

/-- what Put hands back: a sector of its own, or nothing -/
def GivesP (w : World) (yes : Prop) (M : List UInt8) (e : Ending) (w' : World) : Prop :=
  Below w.heap.size w w' ∧ ((yes ∧ ∃ g, e = .returned (.slice (some ⟨g, 0, none⟩) 64 64) ∧ w.heap.size ≤ g ∧ Blk w' g (cells M).toArray 37) ∨ (¬ yes ∧ e = .returned (.slice none 0 0)))

theorem put_walk (q p : Int) (A : Option Addr) (cap n : Nat) (bs : List UInt8) (w : World) (hn : bs.length = n) (hA : Lies w A (cells bs)) (hT : Tab w) :
    Calls Tryd.prog 11 #[.int .i64 q, .int .i64 p, .slice A n cap] w (GivesP w (Ce.right q p = true ∧ n ≤ 59) (Ce.put q p bs)) := by
  unfold GivesP
  by_cases hr : Ce.right q p = true
  · by_cases h59 : n ≤ 59
    · obtain ⟨h1, h2, h3, h4⟩ := (Ce.right_iff q p).1 hr
      obtain ⟨qn, rfl⟩ := Int.eq_ofNat_of_zero_le (show 0 ≤ q by omega)
      obtain ⟨pn, rfl⟩ := Int.eq_ofNat_of_zero_le h3
      have HP := Lib.hid (show Ce.put (qn : Int) (pn : Int) bs = Ce.made qn pn bs from Ce.put_yes hr (by omega))
      have HML := Lib.hid (Ce.made_length qn pn bs (by omega))
      have HMD := Lib.hid (made_walk qn pn (by omega) (by omega) A cap n bs w hn h59 hA hT)
      have HRW := Lib.hid (right_walk (qn : Int) (pn : Int) w)
      rw [hr] at HRW
      have HR := Lib.hid hr
      have hdd : decide ((59 : Int) < (n : Int)) = false := by simp; omega
      generalize Ce.made qn pn bs = M at *
      clear hA hT hr hn h1 h2 h3 h4
      go_enter Tryd.func11, Tryd.ntmps11
      go_wp2_with fail
      refine HRW.out.mono ?_
      rintro e w' ⟨rfl, rfl⟩
      go_wp2_with fail
      refine HMD.out.mono ?_
      rintro e w1 ⟨rfl, hB1⟩
      go_wp2_with (first
        | (refine wpList_sec_alloc secC rfl rfl ?_; intro w2 hb2 hB2 hz2)
        | (refine wpList_sec_store secC rfl _ _ rfl w1.heap.size rfl M HML.out rfl (cells zeros64).toArray (by rw [cells_size, zeros64_length]) hb2 ?_; intro w3 hb3 hk3 hz3))
      go_ret
      refine ⟨Kept.below (hB1.trans (hB2.mono hB1.size)) hk3 (by simp [hB1.size]), .inl ⟨⟨HR.out, h59⟩, w1.heap.size, rfl, hB1.size, ?_⟩⟩
      rw [HP.out]
      exact hb3
    · have HRW := Lib.hid (right_walk q p w)
      rw [hr] at HRW
      have hdd : decide ((59 : Int) < (n : Int)) = true := by simp; omega
      clear hA hT hn hr
      go_enter Tryd.func11, Tryd.ntmps11
      go_wp2_with fail
      refine HRW.out.mono ?_
      rintro e w' ⟨rfl, rfl⟩
      go_wp2
      go_ret
      exact ⟨Below.refl _ _, .inr ⟨fun h => h59 h.2, rfl⟩⟩
  · have hr' : Ce.right q p = false := by simpa using hr
    have HRW := Lib.hid (right_walk q p w)
    rw [hr'] at HRW
    clear hA hT hn
    go_enter Tryd.func11, Tryd.ntmps11
    go_wp2_with fail
    refine HRW.out.mono ?_
    rintro e w' ⟨rfl, rfl⟩
    go_wp2
    go_ret
    exact ⟨Below.refl _ _, .inr ⟨fun h => hr h.1, rfl⟩⟩

/-- what Get hands back: bytes of its own, or none -/
def GivesG (w : World) (ok : Bool) (b : List UInt8) (e : Ending) (w' : World) : Prop :=
  Below w.heap.size w w' ∧ ((ok = true ∧ ∃ g k, k = b.length ∧ e = .returned (.tuple #[.slice (some (partAt g k)) k k, .bool true]) ∧ w.heap.size ≤ g ∧ Lies w' (some (partAt g k)) (cells b)) ∨ (ok = false ∧ e = .returned (.tuple #[.slice none 0 0, .bool false])))

set_option maxHeartbeats 1000000 in
theorem get_64 (qn pn : Nat) (hr : Ce.right (qn : Int) (pn : Int) = true) (b o cap : Nat) (s : List UInt8) (w : World) (hs : s.length = 64) (hA : w.rangeAt b o (cells s)) (hT : Tab w) :
    Calls Tryd.prog 9 #[.slice (some ⟨b, o, none⟩) 64 cap, .int .i64 (qn : Int), .int .i64 (pn : Int)] w (GivesG w (Ce.ok (qn : Int) (pn : Int) s) (Ce.nb s)) := by
  unfold GivesG
  have HRW := Lib.hid (right_walk (qn : Int) (pn : Int) w)
  rw [hr] at HRW
  obtain ⟨k, hk⟩ : ∃ k, (s.headD 0).toNat = k := ⟨_, rfl⟩
  have hcell : w.cell? ⟨b, o, none⟩ = some (.int .u8 (k : Int)) := by
    have h0 := hA 0 (.int .u8 (k : Int)) (by
      rw [← hk]
      obtain ⟨c, l, rfl⟩ := List.exists_cons_of_ne_nil (show s ≠ [] by intro h; rw [h] at hs; cases hs)
      simp [cells])
    exact h0
  by_cases h59 : k ≤ 59
  · obtain ⟨h1, h2, h3, h4⟩ := (Ce.right_iff _ _).1 hr
    have hdd : decide ((59 : Int) < (k : Int)) = false := by simp; omega
    have hsa := run_arrayAt (P := Tryd.prog) w 37 5 64 (some ⟨b, o, none⟩) 64 cap Tryd.underlying37 (Nat.le_refl _)
    have HRG := Lib.hid hA
    have HT := Lib.hid hT
    have HSL := Lib.hid hs
    have HK := Lib.hid hk
    have HNL := Lib.hid (show (Ce.nb s).length = k by rw [Ce.nb_length hs (by omega), hk])
    have HOK := Lib.hid (show Ce.ok (qn : Int) (pn : Int) s = (Ce.made qn pn (Ce.nb s) == s) by
      rw [Bool.eq_iff_iff, Ce.ok_iff, beq_iff_eq]
      exact ⟨fun h => h.2.2.2, fun h => ⟨hr, hs, by omega, h⟩⟩)
    have HML := Lib.hid (Ce.made_length qn pn (Ce.nb s) (by rw [HNL.out]; exact h59))
    have HNB := Lib.hid (show Ce.nb s = (s.drop 1).take k by unfold Ce.nb; rw [hk])
    have HMW := Lib.hid (fun (A : Option Addr) (W : World) (hA : Lies W A (cells (Ce.nb s))) (hT : Tab W) => made_walk qn pn (by omega) (by omega) A k k (Ce.nb s) W HNL.out h59 hA hT)
    have HC0 := Lib.hid (show (cells s)[0]? = some (.int .u8 (k : Int)) by
      rw [← hk]
      obtain ⟨c, l, rfl⟩ := List.exists_cons_of_ne_nil (show s ≠ [] by intro h; rw [h] at hs; cases hs)
      simp [cells])
    generalize Ce.made qn pn (Ce.nb s) = M at *
    generalize Ce.nb s = bs at *
    generalize Ce.ok (qn : Int) (pn : Int) s = OK at *
    clear hA hT hs hk hr h1 h2 h3 h4
    go_enter Tryd.func9, Tryd.ntmps9
    go_wp2_with fail
    refine HRW.out.mono ?_
    rintro e w' ⟨rfl, rfl⟩
    go_wp2_with (first
      | (refine wpList_sec_load secC rfl _ rfl b o rfl s HSL.out HRG.out ?_)
      | (refine wpList_sec_alloc secC rfl rfl ?_; intro w2 hb2 hB2 hz2)
      | (refine wpList_sec_store secC rfl _ _ rfl w.heap.size rfl s HSL.out rfl (cells zeros64).toArray (by rw [cells_size, zeros64_length]) hb2 ?_; intro w3 hb3 hk3 hz3))
    have hc3 : w3.cell? ⟨w.heap.size, 0, none⟩ = some (.int .u8 (k : Int)) := by rw [hb3.cell]; simpa using HC0.out
    have hB3 := Kept.below hB2 hk3 (by simp)
    have hLP : Lies w3 (some (partAt w.heap.size k)) (cells bs) := by
      by_cases hk0 : k = 0
      · have : bs = [] := List.eq_nil_of_length_eq_zero (by rw [HNL.out, hk0])
        rw [this]; exact Lies.nil
      · have h := (hb3.lieAt 1).take k
        rw [cells_take, ← HNB.out] at h
        unfold partAt
        rw [if_neg hk0]
        exact h
    have HC3 := Lib.hid hc3
    have HB3 := Lib.hid hB3
    have HLP := Lib.hid hLP
    have HMD := Lib.hid (fun (W : World) (hW : Below w3.heap.size w3 W) => HMW.out (some (partAt w.heap.size k)) W (hLP.below hW) (HT.out.below (hB3.trans (hW.mono hB3.size)) (Nat.le_refl _)))
    have HLD := Lib.hid (fun (W : World) (hW : Below w3.heap.size w3 W) => secC.load W w.heap.size 0 s HSL.out (hb3.below hW (Nat.le_refl _)).range)
    obtain ⟨B, hB⟩ : ∃ B, (M == s) = !B := ⟨!(M == s), by simp⟩
    have HNE := Lib.hid (fun (W : World) => ne_sec W M s HML.out HSL.out B hB)
    have HBV := Lib.hid hB
    clear hc3 hB3 hLP hb3 hk3 hb2 hB2 hB HMW
    go_wp2_with fail
    refine (bytes_walk w.heap.size k _ HC3.out h59).mono ?_
    rintro e w' ⟨rfl, rfl⟩
    generalize hPA : partAt w.heap.size k = PA at *
    generalize hG : w.heap.size = g at *
    have HPA := Lib.hid hPA
    have HG := Lib.hid hG
    clear hPA hG
    go_wp2
    refine wp_softS (by kernel_rfl) 36 [(29, [1]), (30, [2]), (31, [9]), (32, [29, 30, 31]), (33, [8]), (34, [32, 33])]
      [Fact.is (.int .i64 (qn : Int)), Fact.is (.int .i64 (pn : Int)), Fact.is (.slice (some PA) k k), Fact.is (secV M), Fact.is (secV s), Fact.is (.bool B)]
      (by kernel_rfl) rfl rfl ⟨?s0, ?s1, ?s2, ?s3, ?s4, ?s5, trivial⟩ ?fin
    case s0 =>
      intro ρ W hb hc hf hr
      obtain ⟨r1, -⟩ := hr
      have e1 : ρ (.tmp 1) = .int .i64 (qn : Int) := r1
      clear r1
      refine under_none rfl ?_
      exact ⟨e1, Below.refl _ _⟩
    case s1 =>
      intro ρ W hb hc hf hr
      obtain ⟨r2, -⟩ := hr
      have e2 : ρ (.tmp 2) = .int .i64 (pn : Int) := r2
      clear r2
      refine under_none rfl ?_
      exact ⟨e2, Below.refl _ _⟩
    case s2 =>
      intro ρ W hb hc hf hr
      obtain ⟨r9, -⟩ := hr
      have e9 : ρ (.tmp 9) = .slice (some PA) k k := r9
      clear r9
      refine under_none rfl ?_
      exact ⟨e9, Below.refl _ _⟩
    case s3 =>
      intro ρ W hb hc hf hr
      obtain ⟨r29, r30, r31, -⟩ := hr
      have e29 : ρ (.tmp 29) = .int .i64 (qn : Int) := r29
      clear r29
      have e30 : ρ (.tmp 30) = .int .i64 (pn : Int) := r30
      clear r30
      have e31 : ρ (.tmp 31) = .slice (some PA) k k := r31
      clear r31
      refine under_none rfl ?_
      exact soft_call3 hf e29 e30 e31 (HMD.out W (undrew hb)) rfl (by kernel_rfl) below_is
    case s4 =>
      intro ρ W hb hc hf hr
      obtain ⟨r8, -⟩ := hr
      have e8 : ρ (.tmp 8) = .pointer (some ⟨g, 0, none⟩) := r8
      clear r8
      refine under_none rfl ?_
      exact soft_load e8 (HLD.out W (undrew hb)) rfl
    case s5 =>
      intro ρ W hb hc hf hr
      obtain ⟨r32, r33, -⟩ := hr
      have e32 : ρ (.tmp 32) = secV M := r32
      clear r32
      have e33 : ρ (.tmp 33) = secV s := r33
      clear r33
      refine under_none rfl ?_
      exact soft_ne_sec e32 e33 (HNE.out W) rfl
    case fin =>
      intro a w5 hb hd hsz hk
      have ea := act_puts hd hsz rfl hk
      have k29 : a.tmps.getD 29 undef = .int .i64 (qn : Int) := hk 29
      have k30 : a.tmps.getD 30 undef = .int .i64 (pn : Int) := hk 30
      have k31 : a.tmps.getD 31 undef = .slice (some PA) k k := hk 31
      have k32 : a.tmps.getD 32 undef = secV M := hk 32
      have k33 : a.tmps.getD 33 undef = secV s := hk 33
      have k34 : a.tmps.getD 34 undef = .bool B := hk 34
      clear hk hd hsz
      simp only [List.map_cons, List.map_nil, List.foldl_cons, List.foldl_nil, k29, k30, k31, k32, k33, k34] at ea
      clear k29 k30 k31 k32 k33 k34
      simp only [Act.put, List.setIfInBounds_toArray, List.set_cons_succ, List.set_cons_zero] at ea
      subst ea
      have c5 := undrew hb
      have c6 := HB3.out.trans (c5.mono (by have := HB3.out.size; have := HG.out; omega))
      cases B with
      | true =>
        go_wp2
        go_ret2
        exact ⟨by rw [HG.out]; exact c6, .inr ⟨by rw [HOK.out, HBV.out]; rfl, rfl⟩⟩
      | false =>
        go_wp2
        go_ret2
        exact ⟨by rw [HG.out]; exact c6, .inl ⟨by rw [HOK.out, HBV.out]; rfl, g, k, HNL.out.symm, by rw [HPA.out]; rfl, by rw [HG.out]; exact Nat.le_refl _, by rw [HPA.out]; exact HLP.out.below c5⟩⟩
  · have hdd : decide ((59 : Int) < (k : Int)) = true := by simp; omega
    have HNO := Lib.hid (show Ce.ok (qn : Int) (pn : Int) s = false by
      cases ho : Ce.ok (qn : Int) (pn : Int) s with
      | false => rfl
      | true => exact absurd ((Ce.ok_iff.1 ho).2.2.1) (by omega))
    clear hA hT hs hk hr
    go_enter Tryd.func9, Tryd.ntmps9
    go_wp2_with fail
    refine HRW.out.mono ?_
    rintro e w' ⟨rfl, rfl⟩
    go_wp2
    go_ret2
    exact ⟨Below.refl _ _, .inr ⟨HNO.out, rfl⟩⟩

theorem get_walk (q p : Int) (A : Option Addr) (cap n : Nat) (s : List UInt8) (w : World) (hn : s.length = n) (hA : Lies w A (cells s)) (hT : Tab w) :
    Calls Tryd.prog 9 #[.slice A n cap, .int .i64 q, .int .i64 p] w (GivesG w (Ce.ok q p s) (Ce.nb s)) := by
  by_cases hr : Ce.right q p = true
  · by_cases h64 : n = 64
    · subst h64
      obtain ⟨h1, h2, h3, h4⟩ := (Ce.right_iff q p).1 hr
      obtain ⟨qn, rfl⟩ := Int.eq_ofNat_of_zero_le (show 0 ≤ q by omega)
      obtain ⟨pn, rfl⟩ := Int.eq_ofNat_of_zero_le h3
      rcases hA with h | ⟨ad, rfl, -, hc⟩
      · have : (cells s).length = 0 := by rw [h]; rfl
        rw [cells_length] at this; omega
      · obtain ⟨b, o, sp⟩ := ad
        have h0 := hc 0 _ (List.getElem?_eq_getElem (by rw [cells_length]; omega))
        have hsp : sp = none := by
          cases sp with
          | none => rfl
          | some n =>
            simp only [Addr.add, if_true, World.cell?] at h0
            split at h0 <;> simp at h0
        subst hsp
        exact get_64 qn pn hr b o cap s w hn (fun j u hu => by have := hc j u hu; rwa [Addr.add_mid] at this) hT
    · have HNO := Lib.hid (Ce.ok_len (q := q) (p := p) (s := s) (by omega))
      have HRW := Lib.hid (right_walk q p w)
      rw [hr] at HRW
      have hne : ((n : Int) != 64) = true := by simp; omega
      clear hA hT hn hr
      unfold GivesG
      go_enter Tryd.func9, Tryd.ntmps9
      go_wp2_with fail
      refine HRW.out.mono ?_
      rintro e w' ⟨rfl, rfl⟩
      go_wp2
      go_ret2
      exact ⟨Below.refl _ _, .inr ⟨HNO.out, rfl⟩⟩
  · have hr' : Ce.right q p = false := by simpa using hr
    have HNO := Lib.hid (show Ce.ok q p s = false by
      cases ho : Ce.ok q p s with
      | false => rfl
      | true => exact absurd (Ce.ok_iff.1 ho).1 hr)
    have HRW := Lib.hid (right_walk q p w)
    rw [hr'] at HRW
    clear hA hT hn hr hr'
    unfold GivesG
    go_enter Tryd.func9, Tryd.ntmps9
    go_wp2_with fail
    refine HRW.out.mono ?_
    rintro e w' ⟨rfl, rfl⟩
    go_wp2
    go_ret2
    exact ⟨Below.refl _ _, .inr ⟨HNO.out, rfl⟩⟩

theorem cput_yes (q p : Int) (A : Option Addr) (cap n : Nat) (bs : List UInt8) (w : World) (hn : bs.length = n) (hr : Ce.right q p = true) (h59 : n ≤ 59) (hA : Lies w A (cells bs)) (hT : Tab w) :
    Calls Tryd.prog 11 #[.int .i64 q, .int .i64 p, .slice A n cap] w fun e w' => ∃ g, e = .returned (.slice (some ⟨g, 0, none⟩) 64 64) ∧ w.heap.size ≤ g ∧ Blk w' g (cells (Ce.put q p bs)).toArray 37 ∧ Below w.heap.size w w' := by
  refine (put_walk q p A cap n bs w hn hA hT).mono ?_
  rintro e w' ⟨hb, ⟨_, g, h1, h2, h3⟩ | ⟨h, _⟩⟩
  · exact ⟨g, h1, h2, h3, hb⟩
  · exact absurd ⟨hr, h59⟩ h
theorem cput_no (q p : Int) (A : Option Addr) (cap n : Nat) (bs : List UInt8) (w : World) (hn : bs.length = n) (h : ¬ (Ce.right q p = true ∧ n ≤ 59)) (hA : Lies w A (cells bs)) (hT : Tab w) :
    Calls Tryd.prog 11 #[.int .i64 q, .int .i64 p, .slice A n cap] w fun e w' => e = .returned (.slice none 0 0) ∧ Below w.heap.size w w' := by
  refine (put_walk q p A cap n bs w hn hA hT).mono ?_
  rintro e w' ⟨hb, ⟨h', _⟩ | ⟨_, h1⟩⟩
  · exact absurd h' h
  · exact ⟨h1, hb⟩
theorem cget_yes (q p : Int) (A : Option Addr) (cap n k : Nat) (s : List UInt8) (w : World) (hn : s.length = n) (hk : (Ce.nb s).length = k) (ho : Ce.ok q p s = true) (hA : Lies w A (cells s)) (hT : Tab w) :
    Calls Tryd.prog 9 #[.slice A n cap, .int .i64 q, .int .i64 p] w fun e w' => ∃ g, e = .returned (.tuple #[.slice (some (partAt g k)) k k, .bool true]) ∧ Lies w' (some (partAt g k)) (cells (Ce.nb s)) ∧ Below w.heap.size w w' := by
  refine (get_walk q p A cap n s w hn hA hT).mono ?_
  rintro e w' ⟨hb, ⟨_, g, k', rfl, h1, h2, h3⟩ | ⟨h, _⟩⟩
  · rw [hk] at h1 h3; exact ⟨g, h1, h3, hb⟩
  · rw [ho] at h; cases h
theorem cget_no (q p : Int) (A : Option Addr) (cap n : Nat) (s : List UInt8) (w : World) (hn : s.length = n) (ho : Ce.ok q p s = false) (hA : Lies w A (cells s)) (hT : Tab w) :
    Calls Tryd.prog 9 #[.slice A n cap, .int .i64 q, .int .i64 p] w fun e w' => e = .returned (.tuple #[.slice none 0 0, .bool false]) ∧ Below w.heap.size w w' := by
  refine (get_walk q p A cap n s w hn hA hT).mono ?_
  rintro e w' ⟨hb, ⟨h, _⟩ | ⟨_, h1⟩⟩
  · rw [ho] at h; cases h
  · exact ⟨h1, hb⟩
theorem Blk.liesAll {w : World} {g : Nat} {xs : List UInt8} {t : TypeId} (h : Blk w g (cells xs).toArray t) : Lies w (some ⟨g, 0, none⟩) (cells xs) := by
  have := h.lieAt 0
  rwa [List.drop_zero] at this
theorem right_is (q p : Int) (r : Bool) (h : Ce.right q p = r) (w : World) : Calls Tryd.prog 13 #[.int .i64 q, .int .i64 p] w fun e w' => e = .returned (.bool r) ∧ w = w' := by
  subst h; exact right_walk q p w
/-- string(b), b of its own length -/
theorem conv_at {w : World} {A : Option Addr} {bs : List UInt8} (h : Lies w A (cells bs)) (n c : Nat) (hn : bs.length = n) : (convert 22 9 (.slice A n c)).run Tryd.prog w = .ok (.string (str bs)) w := by
  subst hn
  exact conv_str h 22 5 Tryd.underlying22 Tryd.underlying5 9 Tryd.underlying9
/-- Get, with what it says in one form -/
theorem cget_flag (q p : Int) (A : Option Addr) (cap n : Nat) (s : List UInt8) (w : World) (OK : Bool) (hn : s.length = n) (ho : Ce.ok q p s = OK) (hA : Lies w A (cells s)) (hT : Tab w) :
    Calls Tryd.prog 9 #[.slice A n cap, .int .i64 q, .int .i64 p] w fun e w' => ∃ A' l, e = .returned (.tuple #[.slice A' l l, .bool OK]) ∧ l = (if OK = true then (Ce.nb s).length else 0) ∧ Lies w' A' (cells (if OK = true then Ce.nb s else [])) ∧ Below w.heap.size w w' := by
  refine (get_walk q p A cap n s w hn hA hT).mono ?_
  rintro e w' ⟨hb, ⟨h, g, k', rfl, h1, h2, h3⟩ | ⟨h, h1⟩⟩
  · rw [ho] at h; subst h; exact ⟨_, _, h1, rfl, h3, hb⟩
  · rw [ho] at h; subst h; exact ⟨_, _, h1, rfl, Lies.nil, hb⟩
theorem min_at (n k r : Nat) (h : min n k = r) (W : World) : (Builtin.min_ #[3, 3] 3 #[.int .i64 (n : Int), .int .i64 (k : Int)]).run Tryd.prog W = .ok (.int .i64 (r : Int)) W := by
  subst h
  rcases Nat.lt_or_ge k n with h | h
  · have e : min n k = k := by omega
    rw [e]
    have h1 : (k : Int) < (n : Int) := by omega
    simp [Builtin.min_, Builtin.min2, go_sem]
    omega
  · have e : min n k = n := by omega
    rw [e]
    have h1 : ¬ (k : Int) < (n : Int) := by omega
    simp [Builtin.min_, Builtin.min2, go_sem]
    omega

end Go.Proofs.YtjmjinplihlhcaaDoor
