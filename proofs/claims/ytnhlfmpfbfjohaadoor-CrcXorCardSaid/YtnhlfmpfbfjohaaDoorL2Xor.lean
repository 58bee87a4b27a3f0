/-
  P2.1, CrcXor: for all bytes the law returns true: of three texts of one length the sum of all, exclusive-ored, is their sums, exclusive-ored. No condition but that the program's table starts as its text lays it.
-/
import Derived.Test.YtnhlfmpfbfjohaaDoorHead2
import Derived.Test.YtnhlfmpfbfjohaaDoorLaid2
import Derived.BigRegion
namespace Go.Proofs.YtnhlfmpfbfjohaaDoor.crcXor
open Go.ChangeShapes Go.WideShapes Go.ChangeAt Go.RowKit

theorem min_run (x y : Nat) (W : World) : (Builtin.min_ #[3, 3] 3 #[.int .i64 (x : Int), .int .i64 (y : Int)]).run Tryd.prog W = .ok (.int .i64 ((min x y : Nat) : Int)) W := by
  rcases Nat.lt_or_ge y x with h | h
  · have e : min x y = y := by omega
    rw [e]
    have h1 : (y : Int) < (x : Int) := by omega
    simp [Builtin.min_, Builtin.min2, go_sem]
    omega
  · have e : min x y = x := by omega
    rw [e]
    have h1 : ¬ (y : Int) < (x : Int) := by omega
    simp [Builtin.min_, Builtin.min2, go_sem]
    omega

/-- what has been exclusive-ored so far -/
def part (a b c : List UInt8) (n k : Nat) : List UInt8 := Crc.xors (a.take k) (b.take k) (c.take k) ++ List.replicate (n - k) 0
theorem xors_length : ∀ (x y z : List UInt8), x.length = y.length → y.length = z.length → (Crc.xors x y z).length = x.length
  | [], [], [], _, _ => rfl
  | _ :: x, _ :: y, _ :: z, h1, h2 => by simp [Crc.xors, xors_length x y z (by simpa using h1) (by simpa using h2)]
  | [], [], _ :: _, _, h => by simp at h
  | [], _ :: _, _, h, _ => by simp at h
  | _ :: _, [], _, h, _ => by simp at h
  | _ :: _, _ :: _, [], _, h => by simp at h
theorem xors_snoc : ∀ (x y z : List UInt8) (p q r : UInt8), x.length = y.length → y.length = z.length → Crc.xors (x ++ [p]) (y ++ [q]) (z ++ [r]) = Crc.xors x y z ++ [p ^^^ q ^^^ r]
  | [], [], [], _, _, _, _, _ => rfl
  | _ :: x, _ :: y, _ :: z, p, q, r, h1, h2 => by simp [Crc.xors, xors_snoc x y z p q r (by simpa using h1) (by simpa using h2)]
  | [], [], _ :: _, _, _, _, _, h => by simp at h
  | [], _ :: _, _, _, _, _, h, _ => by simp at h
  | _ :: _, [], _, _, _, _, h, _ => by simp at h
  | _ :: _, _ :: _, [], _, _, _, _, h => by simp at h
section
variable {a b c : List UInt8} {n k : Nat}
theorem part_len (ha : n ≤ a.length) (hb : n ≤ b.length) (hc : n ≤ c.length) (hk : k ≤ n) : (Crc.xors (a.take k) (b.take k) (c.take k)).length = k := by
  rw [xors_length _ _ _ (by simp; omega) (by simp; omega)]; simp; omega
theorem part_length (ha : n ≤ a.length) (hb : n ≤ b.length) (hc : n ≤ c.length) (hk : k ≤ n) : (part a b c n k).length = n := by
  unfold part; rw [List.length_append, part_len ha hb hc hk]; simp; omega
theorem part_set (ha : n ≤ a.length) (hb : n ≤ b.length) (hc : n ≤ c.length) (hk : k < n) : (part a b c n k).set k (a[k]'(by omega) ^^^ b[k]'(by omega) ^^^ c[k]'(by omega)) = part a b c n (k + 1) := by
  have hl := part_len (a := a) (b := b) (c := c) ha hb hc (show k ≤ n by omega)
  unfold part
  obtain ⟨m, hm⟩ : ∃ m, n - k = m + 1 := ⟨n - k - 1, by omega⟩
  rw [List.set_append_right _ _ (by omega), hl, Nat.sub_self, hm, List.replicate_succ, List.set_cons_zero, show n - (k + 1) = m by omega,
    List.take_succ_eq_append_getElem (by omega : k < a.length), List.take_succ_eq_append_getElem (by omega : k < b.length), List.take_succ_eq_append_getElem (by omega : k < c.length),
    xors_snoc _ _ _ _ _ _ (by simp; omega) (by simp; omega), List.append_assoc]
  rfl
end
theorem xor_u8 (x y : UInt8) : bits .xor .u8 (x.toNat : Int) (y.toNat : Int) = ((x ^^^ y).toNat : Int) := by
  show IntKind.u8.wrap ((BitVec.ofInt 8 (x.toNat : Int) ^^^ BitVec.ofInt 8 (y.toNat : Int)).toNat : Int) = _
  have e : ∀ c : UInt8, BitVec.ofInt 8 (c.toNat : Int) = c.toBitVec := fun c => by rw [BitVec.ofInt_natCast]; apply BitVec.eq_of_toNat_eq; simp
  rw [e, e, IntKind.wrap_u8]
  have := (x ^^^ y).toNat_lt
  have h2 : (x.toBitVec ^^^ y.toBitVec).toNat = (x ^^^ y).toNat := rfl
  rw [h2]; omega

set_option maxHeartbeats 1000000 in
set_option maxRecDepth 100000 in
theorem walk (w : World) (hT : Tab w) (A : Option Addr) (ca : Nat) (a : List UInt8) (hla : a.length ≤ ca) (_ : ca ≤ maxLen) (hA : Lies w A (cells a)) (B : Option Addr) (cb : Nat) (b : List UInt8) (hlb : b.length ≤ cb) (_ : cb ≤ maxLen) (hB : Lies w B (cells b)) (C : Option Addr) (cc : Nat) (c : List UInt8) (hlc : c.length ≤ cc) (_ : cc ≤ maxLen) (hC : Lies w C (cells c)) :
    Calls Tryd.prog 6 #[.slice A a.length ca, .slice B b.length cb, .slice C c.length cc] w fun e w' => e = .returned (.bool true) ∧ Below w.heap.size w w' := by
  have HT := Lib.hid hT
  clear hT
  have hm1 := fun W => min_run b.length c.length W
  have hm2 := fun W => min_run a.length (min b.length c.length) W
  have hna : min a.length (min b.length c.length) ≤ a.length := by omega
  have hnb : min a.length (min b.length c.length) ≤ b.length := by omega
  have hnc : min a.length (min b.length c.length) ≤ c.length := by omega
  generalize min a.length (min b.length c.length) = n at *
  generalize min b.length c.length = m at *
  unfold maxLen at *
  by_cases h9 : 9000 < n
  · go_enter Tryd.func6, Tryd.ntmps6
    go_wp2_with fail
    refine (head_any _ HT.out).mono ?_
    rintro e w1 ⟨rfl, hb1⟩
    go_wp2
    go_ret
    exact ⟨rfl, hb1⟩
  · have hmk := fun u : World => make_bytes u n (by omega)
    have HZ := Lib.hid (show cells (part a b c n 0) = List.replicate n (.int .u8 0) by simp [part, Crc.xors, cells])
    generalize (List.replicate n (Value.int .u8 0)) = Z at *
    go_enter Tryd.func6, Tryd.ntmps6
    go_wp2_with fail
    refine (head_any _ HT.out).mono ?_
    rintro e w1 ⟨rfl, hb1⟩
    have T1 := Lib.hid (HT.out.below hb1 (Nat.le_refl _))
    have hA1 := Lib.hid (hA.below hb1)
    have hB1 := Lib.hid (hB.below hb1)
    have hC1 := Lib.hid (hC.below hb1)
    clear hA hB hC
    go_wp2
    go_loopw [10] (fun vi wr => ∃ k : Nat, vi = .int .i64 k ∧ k ≤ n ∧ wr.ownsRow w1.heap.size 5 1 (.slice (some ⟨w1.heap.size, 0, none⟩) n n) n (cells (part a b c n k)) ∧ Below w1.heap.size w1 wr) (fun vi _ => n - (intOf vi).toNat)
    case atStart =>
      refine ⟨0, rfl, by omega, ?_, (Below.refl _ _).alloc (Nat.le_refl _) _⟩
      rw [HZ.out]
      have hZ : Z.length = n := by rw [← HZ.out, cells_length, part_length hna hnb hnc (by omega)]
      have := World.ownsRow_lit (e := 5) (size := 1) (base := w1.heap.size) w1 Z.toArray n (Nat.le_refl _) (by unfold maxLen; omega) (by simp [hZ])
      simpa using this
    case round =>
      obtain ⟨k, rfl, hk, hown, hbr⟩ := hrel
      by_cases hkn : k < n
      · obtain ⟨ad, rfl, _, ha1⟩ := (hA1.out.below hbr).at_ (k := k) (by rw [cells_length]; omega)
        obtain ⟨bd, rfl, _, hb2⟩ := (hB1.out.below hbr).at_ (k := k) (by rw [cells_length]; omega)
        obtain ⟨cd, rfl, _, hc2⟩ := (hC1.out.below hbr).at_ (k := k) (by rw [cells_length]; omega)
        rw [cells_at a k (by omega)] at ha1
        rw [cells_at b k (by omega)] at hb2
        rw [cells_at c k (by omega)] at hc2
        have hfz := hown.frozenAt k
        have hcc := hown.cellAt k (by omega)
        have HOW := Lib.hid hown
        obtain ⟨v0, hv0⟩ : ∃ v, wr.cell? ⟨w1.heap.size, k, none⟩ = some v := ⟨_, hcc.trans (List.getElem?_eq_getElem (by rw [cells_length, part_length hna hnb hnc hk]; omega))⟩
        have HST := Lib.hid (part_set (a := a) (b := b) (c := c) hna hnb hnc hkn)
        obtain ⟨p, q, x1, x2, hp, hq⟩ : ∃ p q : Nat, bits .xor .u8 ((a[k]'(by omega)).toNat : Int) ((b[k]'(by omega)).toNat : Int) = (p : Int) ∧ bits .xor .u8 (p : Int) ((c[k]'(by omega)).toNat : Int) = (q : Int) ∧ p < 256 ∧ (q : Int) = (((a[k]'(by omega)) ^^^ (b[k]'(by omega)) ^^^ (c[k]'(by omega))).toNat : Int) :=
          ⟨_, _, xor_u8 _ _, xor_u8 _ _, UInt8.toNat_lt _, rfl⟩
        have HQ := Lib.hid hq
        have hx := (a[k]'(by omega)).toNat_lt
        have hy := (b[k]'(by omega)).toNat_lt
        have hz := (c[k]'(by omega)).toNat_lt
        generalize (a[k]'(by omega)).toNat = x at ha1 x1 hx
        generalize (b[k]'(by omega)).toNat = y at hb2 x1 hy
        generalize (c[k]'(by omega)).toNat = z at hc2 x2 hz
        clear hown hcc hq
        go_wp2
        go_region
        go_wp2
        go_roundw
        case rel =>
          refine ⟨k + 1, by go_num, by omega, ?_, (hbr.setCell (p := ⟨w1.heap.size, k, none⟩) (Nat.le_refl _) _).drew⟩
          have h2 := (HOW.out.stored k (.int .u8 (q : Int))).1
          have e := cells_set [] (part a b c n k) k _ _ HQ.out
          rw [List.nil_append, List.length_nil, Nat.zero_add, List.nil_append] at e
          rw [e, HST.out] at h2
          exact h2.drew
        case measure => simp [intOf]; omega
      · obtain rfl : k = n := by omega
        have e0 : part a b c k k = Crc.xors (a.take k) (b.take k) (c.take k) := by unfold part; rw [Nat.sub_self]; simp
        rw [e0] at hown
        have hXl := part_len (a := a) (b := b) (c := c) hna hnb hnc (Nat.le_refl k)
        have hS := Crc.of_xors (a.take k) (b.take k) (c.take k) (by simp; omega) (by simp; omega)
        have HOA := Lib.hid (fun (u : World) (hu : Below wr.drew.heap.size wr.drew u) => of_is A ca k (a.take k) _ u (by simp; omega) (by omega) rfl (by have := (((hA1.out.below hbr).drew1).below hu).take k; rwa [cells_take] at this) (((T1.out.below hbr (Nat.le_refl _)).drew1).below hu (Nat.le_refl _)))
        have HOB := Lib.hid (fun (u : World) (hu : Below wr.drew.heap.size wr.drew u) => of_is B cb k (b.take k) _ u (by simp; omega) (by omega) rfl (by have := (((hB1.out.below hbr).drew1).below hu).take k; rwa [cells_take] at this) (((T1.out.below hbr (Nat.le_refl _)).drew1).below hu (Nat.le_refl _)))
        have HOC := Lib.hid (fun (u : World) (hu : Below wr.drew.heap.size wr.drew u) => of_is C cc k (c.take k) _ u (by simp; omega) (by omega) rfl (by have := (((hC1.out.below hbr).drew1).below hu).take k; rwa [cells_take] at this) (((T1.out.below hbr (Nat.le_refl _)).drew1).below hu (Nat.le_refl _)))
        have HOX := Lib.hid (fun (u : World) (hu : Below wr.drew.heap.size wr.drew u) => of_is (some ⟨w1.heap.size, 0, none⟩) k k (Crc.xors (a.take k) (b.take k) (c.take k)) _ u hXl (by omega) rfl (((Lies.own hown).drew1).below hu) (((T1.out.below hbr (Nat.le_refl _)).drew1).below hu (Nat.le_refl _)))
        have hsA : ∀ W : World, (Instr.sliceAt 23 (.slice A a.length ca) none (some (.int .i64 (k : Int))) none).run Tryd.prog W = .ok (.slice A k ca) W := by
          intro W
          have hjc : k ≤ ca := by omega
          go_simp
        have hsB : ∀ W : World, (Instr.sliceAt 23 (.slice B b.length cb) none (some (.int .i64 (k : Int))) none).run Tryd.prog W = .ok (.slice B k cb) W := by
          intro W
          have hjc : k ≤ cb := by omega
          go_simp
        have hsC : ∀ W : World, (Instr.sliceAt 23 (.slice C c.length cc) none (some (.int .i64 (k : Int))) none).run Tryd.prog W = .ok (.slice C k cc) W := by
          intro W
          have hjc : k ≤ cc := by omega
          go_simp
        obtain ⟨P, hP, hP2⟩ : ∃ P : Nat, bits .xor .u32 ((Crc.of (a.take k)).toNat : Int) ((Crc.of (b.take k)).toNat : Int) = (P : Int) ∧ bits .xor .u32 (P : Int) ((Crc.of (c.take k)).toNat : Int) = ((Crc.of (Crc.xors (a.take k) (b.take k) (c.take k))).toNat : Int) := by
          refine ⟨(Crc.of (a.take k) ^^^ Crc.of (b.take k)).toNat, ?_, ?_⟩
          · rw [xor_u32 _ _ (BitVec.isLt _) (BitVec.isLt _), BitVec.toNat_xor]
          · rw [xor_u32 _ _ (BitVec.isLt _) (BitVec.isLt _), hS, ← BitVec.toNat_xor]
        have HB := Lib.hid (hb1.trans (hbr.mono hb1.size)).drew
        clear hS hown hXl e0
        generalize (Crc.of (a.take k)).toNat = sa at *
        generalize (Crc.of (b.take k)).toNat = sb at *
        generalize (Crc.of (c.take k)).toNat = sc at *
        generalize (Crc.of (Crc.xors (a.take k) (b.take k) (c.take k))).toNat = sx at *
        go_wp2
        refine wp_soft (by kernel_rfl) 67 [(47, [7]), (48, [47]), (49, [9, 48]), (50, [49, 48]), (51, [0, 48]), (52, [8, 48]), (53, [51, 52, 48]), (54, [53, 48]), (55, [1, 48]), (56, [8, 48]), (57, [55, 56, 48]), (58, [57, 48]), (59, [54, 58, 48]), (60, [2, 48]), (61, [8, 48]), (62, [60, 61, 48]), (63, [62, 48]), (64, [59, 63, 48]), (65, [50, 64, 48]), (66, [48, 65]), (6, [66])]
          [Fact.is (.bool true), Fact.is (.bool true), Fact.is (.slice (some ⟨w1.heap.size, 0, none⟩) k k), Fact.is (.int .u32 sx), Fact.is (.slice A a.length ca), Fact.is (.int .i64 k), Fact.is (.slice A k ca), Fact.is (.int .u32 sa), Fact.is (.slice B b.length cb), Fact.is (.int .i64 k), Fact.is (.slice B k cb), Fact.is (.int .u32 sb), Fact.is (.int .u32 P), Fact.is (.slice C c.length cc), Fact.is (.int .i64 k), Fact.is (.slice C k cc), Fact.is (.int .u32 sc), Fact.is (.int .u32 sx), Fact.is (.bool true), Fact.is (.bool true), Fact.is (.bool true)]
          (by kernel_rfl) rfl rfl ⟨?s0, ?s1, ?s2, ?s3, ?s4, ?s5, ?s6, ?s7, ?s8, ?s9, ?s10, ?s11, ?s12, ?s13, ?s14, ?s15, ?s16, ?s17, ?s18, ?s19, ?s20, trivial⟩ ?fin
        case s0 =>
          intro ρ W hb hc hf hr
          obtain ⟨r7, -⟩ := hr
          have e7 : ρ (.tmp 7) = .bool true := r7
          clear r7
          refine under_none rfl ?_
          exact ⟨e7, Below.refl _ _⟩
        case s1 =>
          intro ρ W hb hc hf hr
          obtain ⟨r47, -⟩ := hr
          have e47 : ρ (.tmp 47) = .bool true := r47
          clear r47
          refine under_none rfl ?_
          exact ⟨e47, Below.refl _ _⟩
        case s2 =>
          intro ρ W hb hc hf hr
          obtain ⟨r9, r48, -⟩ := hr
          have e9 : ρ (.tmp 9) = .slice (some ⟨w1.heap.size, 0, none⟩) k k := r9
          clear r9
          have e48 : ρ (.tmp 48) = .bool true := r48
          clear r48
          refine ⟨48, rfl, .inl ⟨e48, ?_⟩⟩
          exact ⟨e9, Below.refl _ _⟩
        case s3 =>
          intro ρ W hb hc hf hr
          obtain ⟨r49, r48, -⟩ := hr
          have e49 : ρ (.tmp 49) = .slice (some ⟨w1.heap.size, 0, none⟩) k k := r49
          clear r49
          have e48 : ρ (.tmp 48) = .bool true := r48
          clear r48
          refine ⟨48, rfl, .inl ⟨e48, ?_⟩⟩
          exact soft_call1 hf e49 (HOX.out W hb) rfl (by kernel_rfl) same_is
        case s4 =>
          intro ρ W hb hc hf hr
          obtain ⟨r0, r48, -⟩ := hr
          have e0 : ρ (.tmp 0) = .slice A a.length ca := r0
          clear r0
          have e48 : ρ (.tmp 48) = .bool true := r48
          clear r48
          refine ⟨48, rfl, .inl ⟨e48, ?_⟩⟩
          exact ⟨e0, Below.refl _ _⟩
        case s5 =>
          intro ρ W hb hc hf hr
          obtain ⟨r8, r48, -⟩ := hr
          have e8 : ρ (.tmp 8) = .int .i64 k := r8
          clear r8
          have e48 : ρ (.tmp 48) = .bool true := r48
          clear r48
          refine ⟨48, rfl, .inl ⟨e48, ?_⟩⟩
          exact ⟨e8, Below.refl _ _⟩
        case s6 =>
          intro ρ W hb hc hf hr
          obtain ⟨r51, r52, r48, -⟩ := hr
          have e51 : ρ (.tmp 51) = .slice A a.length ca := r51
          clear r51
          have e52 : ρ (.tmp 52) = .int .i64 k := r52
          clear r52
          have e48 : ρ (.tmp 48) = .bool true := r48
          clear r48
          refine ⟨48, rfl, .inl ⟨e48, ?_⟩⟩
          exact soft_slice e51 e52 (hsA W) rfl
        case s7 =>
          intro ρ W hb hc hf hr
          obtain ⟨r53, r48, -⟩ := hr
          have e53 : ρ (.tmp 53) = .slice A k ca := r53
          clear r53
          have e48 : ρ (.tmp 48) = .bool true := r48
          clear r48
          refine ⟨48, rfl, .inl ⟨e48, ?_⟩⟩
          exact soft_call1 hf e53 (HOA.out W hb) rfl (by kernel_rfl) same_is
        case s8 =>
          intro ρ W hb hc hf hr
          obtain ⟨r1, r48, -⟩ := hr
          have e1 : ρ (.tmp 1) = .slice B b.length cb := r1
          clear r1
          have e48 : ρ (.tmp 48) = .bool true := r48
          clear r48
          refine ⟨48, rfl, .inl ⟨e48, ?_⟩⟩
          exact ⟨e1, Below.refl _ _⟩
        case s9 =>
          intro ρ W hb hc hf hr
          obtain ⟨r8, r48, -⟩ := hr
          have e8 : ρ (.tmp 8) = .int .i64 k := r8
          clear r8
          have e48 : ρ (.tmp 48) = .bool true := r48
          clear r48
          refine ⟨48, rfl, .inl ⟨e48, ?_⟩⟩
          exact ⟨e8, Below.refl _ _⟩
        case s10 =>
          intro ρ W hb hc hf hr
          obtain ⟨r55, r56, r48, -⟩ := hr
          have e55 : ρ (.tmp 55) = .slice B b.length cb := r55
          clear r55
          have e56 : ρ (.tmp 56) = .int .i64 k := r56
          clear r56
          have e48 : ρ (.tmp 48) = .bool true := r48
          clear r48
          refine ⟨48, rfl, .inl ⟨e48, ?_⟩⟩
          exact soft_slice e55 e56 (hsB W) rfl
        case s11 =>
          intro ρ W hb hc hf hr
          obtain ⟨r57, r48, -⟩ := hr
          have e57 : ρ (.tmp 57) = .slice B k cb := r57
          clear r57
          have e48 : ρ (.tmp 48) = .bool true := r48
          clear r48
          refine ⟨48, rfl, .inl ⟨e48, ?_⟩⟩
          exact soft_call1 hf e57 (HOB.out W hb) rfl (by kernel_rfl) same_is
        case s12 =>
          intro ρ W hb hc hf hr
          obtain ⟨r54, r58, r48, -⟩ := hr
          have e54 : ρ (.tmp 54) = .int .u32 sa := r54
          clear r54
          have e58 : ρ (.tmp 58) = .int .u32 sb := r58
          clear r58
          have e48 : ρ (.tmp 48) = .bool true := r48
          clear r48
          refine ⟨48, rfl, .inl ⟨e48, ?_⟩⟩
          exact soft_bin e54 e58 rfl rfl (by simp [binOp, go_sem, hP])
        case s13 =>
          intro ρ W hb hc hf hr
          obtain ⟨r2, r48, -⟩ := hr
          have e2 : ρ (.tmp 2) = .slice C c.length cc := r2
          clear r2
          have e48 : ρ (.tmp 48) = .bool true := r48
          clear r48
          refine ⟨48, rfl, .inl ⟨e48, ?_⟩⟩
          exact ⟨e2, Below.refl _ _⟩
        case s14 =>
          intro ρ W hb hc hf hr
          obtain ⟨r8, r48, -⟩ := hr
          have e8 : ρ (.tmp 8) = .int .i64 k := r8
          clear r8
          have e48 : ρ (.tmp 48) = .bool true := r48
          clear r48
          refine ⟨48, rfl, .inl ⟨e48, ?_⟩⟩
          exact ⟨e8, Below.refl _ _⟩
        case s15 =>
          intro ρ W hb hc hf hr
          obtain ⟨r60, r61, r48, -⟩ := hr
          have e60 : ρ (.tmp 60) = .slice C c.length cc := r60
          clear r60
          have e61 : ρ (.tmp 61) = .int .i64 k := r61
          clear r61
          have e48 : ρ (.tmp 48) = .bool true := r48
          clear r48
          refine ⟨48, rfl, .inl ⟨e48, ?_⟩⟩
          exact soft_slice e60 e61 (hsC W) rfl
        case s16 =>
          intro ρ W hb hc hf hr
          obtain ⟨r62, r48, -⟩ := hr
          have e62 : ρ (.tmp 62) = .slice C k cc := r62
          clear r62
          have e48 : ρ (.tmp 48) = .bool true := r48
          clear r48
          refine ⟨48, rfl, .inl ⟨e48, ?_⟩⟩
          exact soft_call1 hf e62 (HOC.out W hb) rfl (by kernel_rfl) same_is
        case s17 =>
          intro ρ W hb hc hf hr
          obtain ⟨r59, r63, r48, -⟩ := hr
          have e59 : ρ (.tmp 59) = .int .u32 P := r59
          clear r59
          have e63 : ρ (.tmp 63) = .int .u32 sc := r63
          clear r63
          have e48 : ρ (.tmp 48) = .bool true := r48
          clear r48
          refine ⟨48, rfl, .inl ⟨e48, ?_⟩⟩
          exact soft_bin e59 e63 rfl rfl (by simp [binOp, go_sem, hP2])
        case s18 =>
          intro ρ W hb hc hf hr
          obtain ⟨r50, r64, r48, -⟩ := hr
          have e50 : ρ (.tmp 50) = .int .u32 sx := r50
          clear r50
          have e64 : ρ (.tmp 64) = .int .u32 sx := r64
          clear r64
          have e48 : ρ (.tmp 48) = .bool true := r48
          clear r48
          refine ⟨48, rfl, .inl ⟨e48, ?_⟩⟩
          simp [execOp, e50, e64, go_sem, softUpon, Fact.is, Below.refl]
        case s19 =>
          intro ρ W hb hc hf hr
          obtain ⟨r48, r65, -⟩ := hr
          have e48 : ρ (.tmp 48) = .bool true := r48
          clear r48
          have e65 : ρ (.tmp 65) = .bool true := r65
          clear r65
          refine under_none rfl ?_
          simp [execOp, e48, e65, hc, go_sem, softUpon, Fact.is, Below.refl]
        case s20 =>
          intro ρ W hb hc hf hr
          obtain ⟨r66, -⟩ := hr
          have e66 : ρ (.tmp 66) = .bool true := r66
          clear r66
          refine under_none rfl ?_
          exact ⟨e66, Below.refl _ _⟩
        case fin =>
          intro a w' hb hd hk
          have h6 : a.tmps.getD 6 undef = .bool true := hk 6
          clear hk
          go_wp2
          refine bodyPost_ret (results_tmp rfl _ _ _) hd ?_
          exact ⟨by rw [h6], HB.out.trans (hb.mono HB.out.size)⟩

set_option maxRecDepth 100000 in
theorem lifted (os : Os) (started : os.Started) (H : Type) (enc : TypeId × Value → H) :
    ReturnsInHanded {} Tryd.checked os 6 .any (fun w args => (Rows.crcXorSpec.pre enc Tryd.prog Tryd.f6 [] false w args ∧ laidMetH Tryd.prog laidHere w) ∧ sizedMet enc Tryd.prog Tryd.f6 (OpenSpec.ofChange Rows.crcXorSpec) false w args) (Rows.crcXorSpec.post enc Tryd.prog Tryd.f6 false true false false) := by
  refine returnsInHanded_of_change_and (C := Tryd.checked) (X := fun w _ => laidMetH Tryd.prog laidHere w) (fun _ _ _ hh h => h.of_heap hh) own started (by kernel_rfl) Tryd.func6
    (ChangeSpec.witness_shaped (enc := enc) (C := Tryd.checked) (os := os) (X := fun w _ => laidMetH Tryd.prog laidHere w) false (World.doorLaid Tryd.prog doorSteps os) #[.slice none 0 0, .slice none 0 0, .slice none 0 0] 8 rfl (World.shaped_of_RefB (by kernel_rfl) (by kernel_rfl)) (by kernel_rfl) (by kernel_rfl) (by kernel_rfl) (door_met os _)) ?_
  intro W base args ds gs before hval0 hW _ _ hL _
  have hval : ∀ (j : Nat) t v, Tryd.f6.params[j]? = some t → args[j]? = some v → Value.okWide Tryd.prog W .any base t v := hval0
  have hfin := fun W' => law_post (enc := enc) (P := Tryd.prog) (f := Tryd.f6) (s := Rows.crcXorSpec) (tb := 4) (W := W) (W' := W') (args := args) (ds := ds) (gs := gs) (before := before) laidOut rfl (by kernel_rfl) Tryd.underlying4 (by kernel_rfl) (fun xs h => by rw [Tryd.params6] at h; match xs, h with | [_, _, _], _ => rfl) hW
  have hlt : ∀ x ∈ before, x.block < W.heap.size := fun x hx => hW.lt x hx
  obtain ⟨p, q, hA0, hV, rfl, hfz, hnd⟩ := hW
  have hA : DataW.TrodAll enc Tryd.prog W 0 (fun _ => true) true Tryd.f6.params.toList args.toList ds p := hA0
  rw [Tryd.params6] at hA hval
  obtain ⟨v0, vs0, d0, ds0, p0, q0, hargs, rfl, rfl, h0, r0⟩ := trodAll_cons hA
  obtain ⟨v1, vs1, d1, ds1, p1, q1, rfl, rfl, rfl, h1, r1⟩ := trodAll_cons r0
  obtain ⟨v2, vs2, d2, ds2, p2, q2, rfl, rfl, rfl, h2, r2⟩ := trodAll_cons r1
  obtain ⟨rfl, rfl, rfl⟩ := trodAll_nil r2
  obtain rfl : args = #[v0, v1, v2] := by cases args; simp_all
  obtain ⟨A0, cap0, b0, rfl, hl0, hm0, hB0⟩ := open_bytes (hval 0 23 v0 rfl rfl) h0 (fun x hx => hlt x (by simp [hx]))
  obtain ⟨A1, cap1, b1, rfl, hl1, hm1, hB1⟩ := open_bytes (hval 1 23 v1 rfl rfl) h1 (fun x hx => hlt x (by simp [hx]))
  obtain ⟨A2, cap2, b2, rfl, hl2, hm2, hB2⟩ := open_bytes (hval 2 23 v2 rfl rfl) h2 (fun x hx => hlt x (by simp [hx]))
  refine (walk W (of_laid hL) A0 cap0 b0 hl0 hm0 hB0 A1 cap1 b1 hl1 hm1 hB1 A2 cap2 b2 hl2 hm2 hB2).mono fun e W' ⟨he, hg⟩ => ?_
  subst he
  exact ⟨_, rfl, hfin W' hg⟩

theorem proved : Rows.CrcXorSaid :=
  OpenClaim.holds_of_wide 6 Tryd.f6 rfl rfl rfl rfl rfl rfl rfl ⟨rfl, rfl, rfl, rfl, rfl⟩ rfl rfl rfl rfl rfl (by kernel_rfl) Tryd.func6 (by kernel_rfl)
    (of_decide_eq_true (by kernel_rfl)) (by unfold Func.isWrapper; first | (rw [if_pos (by decide +kernel)]; kernel_rfl) | (rw [if_neg (by decide +kernel)]; exact ⟨rfl, rfl⟩))
    (fun os started H enc _ => lifted os started H enc)

set_option maxRecDepth 100000 in
theorem card : Rows.CrcXorCardSaid :=
  Claim7.holds_tied_plain_at .later [] laidKindsHere true _ false
    proved (fun _ h => by cases h) (by kernel_rfl) (fun _ h => by cases h) crcXor_row_tie rfl ⟨rfl, rfl⟩ (by kernel_rfl) rfl
    (fun f fn hf hfn => by
      obtain rfl : f = 6 := Option.some.inj ((show Tryd.prog.funcNamed "turntable/turntablelaw02.CrcXor" = some 6 by kernel_rfl).symm.trans hf) |>.symm
      obtain rfl : fn = Tryd.f6 := (Option.some.inj (Tryd.func6.symm.trans hfn)).symm
      exact ⟨by kernel_rfl, fun j t ht => by
        rw [Tryd.params6] at ht
        have hm : t ∈ [23] := by simpa using Array.mem_of_getElem? ht
        have hall : ([23].all fun u => !Tryd.prog.wantsStandIn u) = true := by kernel_rfl
        exact (show Tryd.prog.wantsStandIn t = false by simpa using List.all_eq_true.1 hall t hm)⟩)
    (by kernel_rfl)
#print axioms card
end Go.Proofs.YtnhlfmpfbfjohaaDoor.crcXor
