/-
  P2.1, CrcTells: for every sum and all bytes the law returns true: the sum of any bytes, gone on with from any sum, what is sealed, and what is opened, are the document's. No condition but that the program's table starts as its text lays it.
-/
import Derived.Test.YtnhlfmpfbfjohaaDoorHead2
import Derived.Test.YtnhlfmpfbfjohaaDoorLaid2
import Derived.Test.YtnhlfmpfbfjohaaDoorR2S
namespace Go.Proofs.YtnhlfmpfbfjohaaDoor.crcTells
open Go.ChangeShapes Go.WideShapes Go.ChangeAt Go.RowKit

/-- what is opened of bytes -/
def opened (bs : List UInt8) : List UInt8 := if Crc.opens bs then bs.take (bs.length - 4) else []
theorem conv_nil (W : World) : (convert 23 9 (.slice none 0 0)).run Tryd.prog W = .ok (.string (str [])) W :=
  conv_str (P := Tryd.prog) (A := none) (c := 0) (bs := []) Lies.nil 23 5 Tryd.underlying23 Tryd.underlying5 9 Tryd.underlying9
theorem open_gen (A : Option Addr) (cap n : Nat) (bs : List UInt8) (w : World) (hn : bs.length = n) (hm : n ≤ 1099511627776) (hc : n ≤ cap) (hA : Lies w A (cells bs)) (hT : Tab w) :
    Calls Tryd.prog 10 #[.slice A n cap] w fun e w' => ∃ v, e = .returned (.tuple #[v, .bool (decide (Crc.opens bs))]) ∧ Below w.heap.size w w' ∧ ∀ W, Below w'.heap.size w' W → (convert 23 9 v).run Tryd.prog W = .ok (.string (str (opened bs))) W := by
  refine (open_walk A cap n bs w hn hm hc hA hT).mono ?_
  rintro e w' ⟨hb, h⟩
  rcases h with ⟨h, g, c, rfl, hw⟩ | ⟨h, rfl⟩
  · refine ⟨_, by simp [h]; rfl, hb, fun W hW => ?_⟩
    have h4 := h.1
    obtain ⟨m, hm'⟩ : ∃ m, bs.length = m + 4 := ⟨bs.length - 4, by omega⟩
    have e1 : opened bs = bs.take m := by unfold opened; rw [if_pos h, hm', Nat.add_sub_cancel]
    rw [hm'] at hw
    rw [e1, hm', Nat.add_sub_cancel]
    exact conv_open (own_keep hw hW)
  · refine ⟨_, by simp [h]; rfl, hb, fun W _ => ?_⟩
    have e1 : opened bs = [] := by unfold opened; rw [if_neg h]
    rw [e1]; exact conv_nil W
theorem rOpen_gen (A : Option Addr) (cap n : Nat) (bs : List UInt8) (w : World) (hn : bs.length = n) (hm : n ≤ 1099511627776) (hc : n ≤ cap) (hA : Lies w A (cells bs)) :
    Calls Tryd.prog 11 #[.slice A n cap] w fun e w' => ∃ v, e = .returned (.tuple #[v, .bool (decide (Crc.opens bs))]) ∧ Below w.heap.size w w' ∧ ∀ W, Below w'.heap.size w' W → (convert 23 9 v).run Tryd.prog W = .ok (.string (str (opened bs))) W := by
  refine (rOpen_walk A cap n bs w hn hm hc hA).mono ?_
  rintro e w' ⟨hb, h⟩
  rcases h with ⟨h, v, rfl, hw⟩ | ⟨h, rfl⟩
  · refine ⟨_, by simp [h]; rfl, hb, fun W hW => ?_⟩
    have e1 : opened bs = bs.take (bs.length - 4) := by unfold opened; rw [if_pos h]
    rw [e1]
    exact own_str (own_keep hw hW) _ Tryd.underlying23 Tryd.underlying5 _ Tryd.underlying9
  · refine ⟨_, by simp [h]; rfl, hb, fun W _ => ?_⟩
    have e1 : opened bs = [] := by unfold opened; rw [if_neg h]
    rw [e1]; exact conv_nil W

set_option maxHeartbeats 2000000 in
set_option maxRecDepth 100000 in
theorem walkN (w : World) (hT : Tab w) (s : Nat) (hs : s < 4294967296) (A : Option Addr) (cap n : Nat) (bs : List UInt8) (hn : bs.length = n) (hl : n ≤ cap) (hA : Lies w A (cells bs)) :
    Calls Tryd.prog 3 #[.int .u32 (s : Int), .slice A n cap] w fun e w' => e = .returned (.bool true) ∧ Below w.heap.size w w' := by
  have HT := Lib.hid hT
  clear hT
  by_cases h9 : 9000 < n
  · clear hn
    go_enter Tryd.func3, Tryd.ntmps3
    go_wp2_with fail
    refine (head_any _ HT.out).mono ?_
    rintro e w1 ⟨rfl, hb1⟩
    go_wp2
    go_ret
    exact ⟨rfl, hb1⟩
  · have HN := Lib.hid hn
    have HA := Lib.hid hA
    clear hn hA
    go_enter Tryd.func3, Tryd.ntmps3
    go_wp2_with fail
    refine (head_any _ HT.out).mono ?_
    rintro e w1 ⟨rfl, hb1⟩
    have T1 := Lib.hid (HT.out.below hb1 (Nat.le_refl _))
    have A1 := Lib.hid (HA.out.below hb1)
    go_wp2_with fail
    refine (open_gen A cap n bs w1 HN.out (by omega) hl A1.out T1.out).mono ?_
    rintro e w2 ⟨vx, rfl, b2, hcx⟩
    have T2 := Lib.hid (T1.out.below b2 (Nat.le_refl _))
    have A2 := Lib.hid (A1.out.below b2)
    have HCX := Lib.hid hcx
    clear hcx
    generalize hq : decide (Crc.opens bs) = o
    go_wp2_with fail
    refine (rOpen_gen A cap n bs w2 HN.out (by omega) hl A2.out).mono ?_
    rintro e w3 ⟨vy, rfl, b3, hcy⟩
    rw [hq]
    clear hq
    have T3 := Lib.hid (T2.out.below b3 (Nat.le_refl _)).drew1
    have A3 := Lib.hid (A2.out.below b3).drew1
    have CX := Lib.hid (fun (u : World) (hu : Below w3.drew.heap.size w3.drew u) => HCX.out u (b3.drew.trans (hu.mono b3.size)))
    have CY := Lib.hid (fun (u : World) (hu : Below w3.drew.heap.size w3.drew u) => hcy u ((Below.refl w3.heap.size w3).drew.trans hu))
    have HB := Lib.hid (show Below w.heap.size w w3.drew from (hb1.trans ((b2.mono hb1.size).trans (b3.mono (by have := hb1.size; have := b2.size; omega)))).drew)
    have HOF := Lib.hid (fun (u : World) (hu : Below w3.drew.heap.size w3.drew u) => of_is A cap n bs _ u HN.out (by omega) rfl (A3.out.below hu) (T3.out.below hu (Nat.le_refl _)))
    have HRO := Lib.hid (fun (u : World) (hu : Below w3.drew.heap.size w3.drew u) => rOf_walk A cap n bs u HN.out (by omega) (A3.out.below hu))
    have HMO := Lib.hid (fun (u : World) (hu : Below w3.drew.heap.size w3.drew u) => more_is s hs A cap n bs _ u HN.out (by omega) rfl (A3.out.below hu) (T3.out.below hu (Nat.le_refl _)))
    have HRM := Lib.hid (fun (u : World) (hu : Below w3.drew.heap.size w3.drew u) => rMore_walk s hs A cap n bs u HN.out (by omega) (A3.out.below hu))
    have HSE := Lib.hid (fun (u : World) (hu : Below w3.drew.heap.size w3.drew u) => seal_walk A cap bs u (by rw [HN.out]; omega) (A3.out.below hu) (T3.out.below hu (Nat.le_refl _)))
    rw [HN.out] at HSE
    have HRS := Lib.hid (fun (u : World) (hu : Below w3.drew.heap.size w3.drew u) => rSeal_walk A cap n bs u HN.out (by omega) (A3.out.below hu))
    generalize (Crc.of bs).toNat = S at *
    generalize (Crc.more (BitVec.ofNat 32 s) bs).toNat = M at *
    generalize Crc.sealed bs = Z at *
    generalize str (opened bs) = SX at *
    clear hcy b3 b2
    go_wp2
    refine wp_soft (by kernel_rfl) 63 [(25, [5]), (26, [25]), (27, [1, 26]), (28, [27, 26]), (29, [1, 26]), (30, [29, 26]), (31, [28, 30, 26]), (32, [26, 31]), (33, [32]), (34, [0, 33]), (35, [1, 33]), (36, [34, 35, 33]), (37, [0, 33]), (38, [1, 33]), (39, [37, 38, 33]), (40, [36, 39, 33]), (41, [33, 40]), (42, [41]), (43, [1, 42]), (44, [43, 42]), (45, [44, 42]), (46, [1, 42]), (47, [46, 42]), (48, [47, 42]), (49, [45, 48, 42]), (50, [42, 49]), (51, [50]), (52, [6, 51]), (53, [52, 51]), (54, [8, 51]), (55, [54, 51]), (56, [53, 55, 51]), (57, [51, 56]), (58, [57]), (59, [7, 58]), (60, [9, 58]), (61, [59, 60, 58]), (62, [58, 61]), (4, [62])]
      [Fact.is (.bool true), Fact.is (.bool true), Fact.is (.slice A n cap), Fact.is (.int .u32 S), Fact.is (.slice A n cap), Fact.is (.int .u32 S), Fact.is (.bool true), Fact.is (.bool true), Fact.is (.bool true), Fact.is (.int .u32 s), Fact.is (.slice A n cap), Fact.is (.int .u32 M), Fact.is (.int .u32 s), Fact.is (.slice A n cap), Fact.is (.int .u32 M), Fact.is (.bool true), Fact.is (.bool true), Fact.is (.bool true), Fact.is (.slice A n cap), Fact.own Z, Fact.is (.string (str Z)), Fact.is (.slice A n cap), Fact.own Z, Fact.is (.string (str Z)), Fact.is (.bool true), Fact.is (.bool true), Fact.is (.bool true), Fact.is (vx), Fact.is (.string SX), Fact.is (vy), Fact.is (.string SX), Fact.is (.bool true), Fact.is (.bool true), Fact.is (.bool true), Fact.is (.bool o), Fact.is (.bool o), Fact.is (.bool true), Fact.is (.bool true), Fact.is (.bool true)]
      (by kernel_rfl) rfl rfl ⟨?s0, ?s1, ?s2, ?s3, ?s4, ?s5, ?s6, ?s7, ?s8, ?s9, ?s10, ?s11, ?s12, ?s13, ?s14, ?s15, ?s16, ?s17, ?s18, ?s19, ?s20, ?s21, ?s22, ?s23, ?s24, ?s25, ?s26, ?s27, ?s28, ?s29, ?s30, ?s31, ?s32, ?s33, ?s34, ?s35, ?s36, ?s37, ?s38, trivial⟩ ?fin
    case s0 =>
      intro ρ W hb hc hf hr
      obtain ⟨r5, -⟩ := hr
      have e5 : ρ (.tmp 5) = .bool true := r5
      clear r5
      refine under_none rfl ?_
      exact ⟨e5, Below.refl _ _⟩
    case s1 =>
      intro ρ W hb hc hf hr
      obtain ⟨r25, -⟩ := hr
      have e25 : ρ (.tmp 25) = .bool true := r25
      clear r25
      refine under_none rfl ?_
      exact ⟨e25, Below.refl _ _⟩
    case s2 =>
      intro ρ W hb hc hf hr
      obtain ⟨r1, r26, -⟩ := hr
      have e1 : ρ (.tmp 1) = .slice A n cap := r1
      clear r1
      have e26 : ρ (.tmp 26) = .bool true := r26
      clear r26
      refine ⟨26, rfl, .inl ⟨e26, ?_⟩⟩
      exact ⟨e1, Below.refl _ _⟩
    case s3 =>
      intro ρ W hb hc hf hr
      obtain ⟨r27, r26, -⟩ := hr
      have e27 : ρ (.tmp 27) = .slice A n cap := r27
      clear r27
      have e26 : ρ (.tmp 26) = .bool true := r26
      clear r26
      refine ⟨26, rfl, .inl ⟨e26, ?_⟩⟩
      exact soft_call1 hf e27 (HOF.out W hb) rfl (by kernel_rfl) same_is
    case s4 =>
      intro ρ W hb hc hf hr
      obtain ⟨r1, r26, -⟩ := hr
      have e1 : ρ (.tmp 1) = .slice A n cap := r1
      clear r1
      have e26 : ρ (.tmp 26) = .bool true := r26
      clear r26
      refine ⟨26, rfl, .inl ⟨e26, ?_⟩⟩
      exact ⟨e1, Below.refl _ _⟩
    case s5 =>
      intro ρ W hb hc hf hr
      obtain ⟨r29, r26, -⟩ := hr
      have e29 : ρ (.tmp 29) = .slice A n cap := r29
      clear r29
      have e26 : ρ (.tmp 26) = .bool true := r26
      clear r26
      refine ⟨26, rfl, .inl ⟨e26, ?_⟩⟩
      exact soft_call1 hf e29 (HRO.out W hb) rfl (by kernel_rfl) same_is
    case s6 =>
      intro ρ W hb hc hf hr
      obtain ⟨r28, r30, r26, -⟩ := hr
      have e28 : ρ (.tmp 28) = .int .u32 S := r28
      clear r28
      have e30 : ρ (.tmp 30) = .int .u32 S := r30
      clear r30
      have e26 : ρ (.tmp 26) = .bool true := r26
      clear r26
      refine ⟨26, rfl, .inl ⟨e26, ?_⟩⟩
      simp [execOp, e28, e30, go_sem, softUpon, Fact.is, Below.refl]
    case s7 =>
      intro ρ W hb hc hf hr
      obtain ⟨r26, r31, -⟩ := hr
      have e26 : ρ (.tmp 26) = .bool true := r26
      clear r26
      have e31 : ρ (.tmp 31) = .bool true := r31
      clear r31
      refine under_none rfl ?_
      simp [execOp, e26, e31, hc, go_sem, softUpon, Fact.is, Below.refl]
    case s8 =>
      intro ρ W hb hc hf hr
      obtain ⟨r32, -⟩ := hr
      have e32 : ρ (.tmp 32) = .bool true := r32
      clear r32
      refine under_none rfl ?_
      exact ⟨e32, Below.refl _ _⟩
    case s9 =>
      intro ρ W hb hc hf hr
      obtain ⟨r0, r33, -⟩ := hr
      have e0 : ρ (.tmp 0) = .int .u32 s := r0
      clear r0
      have e33 : ρ (.tmp 33) = .bool true := r33
      clear r33
      refine ⟨33, rfl, .inl ⟨e33, ?_⟩⟩
      exact ⟨e0, Below.refl _ _⟩
    case s10 =>
      intro ρ W hb hc hf hr
      obtain ⟨r1, r33, -⟩ := hr
      have e1 : ρ (.tmp 1) = .slice A n cap := r1
      clear r1
      have e33 : ρ (.tmp 33) = .bool true := r33
      clear r33
      refine ⟨33, rfl, .inl ⟨e33, ?_⟩⟩
      exact ⟨e1, Below.refl _ _⟩
    case s11 =>
      intro ρ W hb hc hf hr
      obtain ⟨r34, r35, r33, -⟩ := hr
      have e34 : ρ (.tmp 34) = .int .u32 s := r34
      clear r34
      have e35 : ρ (.tmp 35) = .slice A n cap := r35
      clear r35
      have e33 : ρ (.tmp 33) = .bool true := r33
      clear r33
      refine ⟨33, rfl, .inl ⟨e33, ?_⟩⟩
      exact soft_call2 hf e34 e35 (HMO.out W hb) rfl (by kernel_rfl) same_is
    case s12 =>
      intro ρ W hb hc hf hr
      obtain ⟨r0, r33, -⟩ := hr
      have e0 : ρ (.tmp 0) = .int .u32 s := r0
      clear r0
      have e33 : ρ (.tmp 33) = .bool true := r33
      clear r33
      refine ⟨33, rfl, .inl ⟨e33, ?_⟩⟩
      exact ⟨e0, Below.refl _ _⟩
    case s13 =>
      intro ρ W hb hc hf hr
      obtain ⟨r1, r33, -⟩ := hr
      have e1 : ρ (.tmp 1) = .slice A n cap := r1
      clear r1
      have e33 : ρ (.tmp 33) = .bool true := r33
      clear r33
      refine ⟨33, rfl, .inl ⟨e33, ?_⟩⟩
      exact ⟨e1, Below.refl _ _⟩
    case s14 =>
      intro ρ W hb hc hf hr
      obtain ⟨r37, r38, r33, -⟩ := hr
      have e37 : ρ (.tmp 37) = .int .u32 s := r37
      clear r37
      have e38 : ρ (.tmp 38) = .slice A n cap := r38
      clear r38
      have e33 : ρ (.tmp 33) = .bool true := r33
      clear r33
      refine ⟨33, rfl, .inl ⟨e33, ?_⟩⟩
      exact soft_call2 hf e37 e38 (HRM.out W hb) rfl (by kernel_rfl) same_is
    case s15 =>
      intro ρ W hb hc hf hr
      obtain ⟨r36, r39, r33, -⟩ := hr
      have e36 : ρ (.tmp 36) = .int .u32 M := r36
      clear r36
      have e39 : ρ (.tmp 39) = .int .u32 M := r39
      clear r39
      have e33 : ρ (.tmp 33) = .bool true := r33
      clear r33
      refine ⟨33, rfl, .inl ⟨e33, ?_⟩⟩
      simp [execOp, e36, e39, go_sem, softUpon, Fact.is, Below.refl]
    case s16 =>
      intro ρ W hb hc hf hr
      obtain ⟨r33, r40, -⟩ := hr
      have e33 : ρ (.tmp 33) = .bool true := r33
      clear r33
      have e40 : ρ (.tmp 40) = .bool true := r40
      clear r40
      refine under_none rfl ?_
      simp [execOp, e33, e40, hc, go_sem, softUpon, Fact.is, Below.refl]
    case s17 =>
      intro ρ W hb hc hf hr
      obtain ⟨r41, -⟩ := hr
      have e41 : ρ (.tmp 41) = .bool true := r41
      clear r41
      refine under_none rfl ?_
      exact ⟨e41, Below.refl _ _⟩
    case s18 =>
      intro ρ W hb hc hf hr
      obtain ⟨r1, r42, -⟩ := hr
      have e1 : ρ (.tmp 1) = .slice A n cap := r1
      clear r1
      have e42 : ρ (.tmp 42) = .bool true := r42
      clear r42
      refine ⟨42, rfl, .inl ⟨e42, ?_⟩⟩
      exact ⟨e1, Below.refl _ _⟩
    case s19 =>
      intro ρ W hb hc hf hr
      obtain ⟨r43, r42, -⟩ := hr
      have e43 : ρ (.tmp 43) = .slice A n cap := r43
      clear r43
      have e42 : ρ (.tmp 42) = .bool true := r42
      clear r42
      refine ⟨42, rfl, .inl ⟨e42, ?_⟩⟩
      exact soft_call1 hf e43 (HSE.out W hb) rfl (by kernel_rfl) made_own
    case s20 =>
      intro ρ W hb hc hf hr
      obtain ⟨r44, r42, -⟩ := hr
      have e42 : ρ (.tmp 42) = .bool true := r42
      clear r42
      refine ⟨42, rfl, .inl ⟨e42, ?_⟩⟩
      exact soft_own r44 rfl
    case s21 =>
      intro ρ W hb hc hf hr
      obtain ⟨r1, r42, -⟩ := hr
      have e1 : ρ (.tmp 1) = .slice A n cap := r1
      clear r1
      have e42 : ρ (.tmp 42) = .bool true := r42
      clear r42
      refine ⟨42, rfl, .inl ⟨e42, ?_⟩⟩
      exact ⟨e1, Below.refl _ _⟩
    case s22 =>
      intro ρ W hb hc hf hr
      obtain ⟨r46, r42, -⟩ := hr
      have e46 : ρ (.tmp 46) = .slice A n cap := r46
      clear r46
      have e42 : ρ (.tmp 42) = .bool true := r42
      clear r42
      refine ⟨42, rfl, .inl ⟨e42, ?_⟩⟩
      exact soft_call1 hf e46 (HRS.out W hb) rfl (by kernel_rfl) made_own
    case s23 =>
      intro ρ W hb hc hf hr
      obtain ⟨r47, r42, -⟩ := hr
      have e42 : ρ (.tmp 42) = .bool true := r42
      clear r42
      refine ⟨42, rfl, .inl ⟨e42, ?_⟩⟩
      exact soft_own r47 rfl
    case s24 =>
      intro ρ W hb hc hf hr
      obtain ⟨r45, r48, r42, -⟩ := hr
      have e45 : ρ (.tmp 45) = .string (str Z) := r45
      clear r45
      have e48 : ρ (.tmp 48) = .string (str Z) := r48
      clear r48
      have e42 : ρ (.tmp 42) = .bool true := r42
      clear r42
      refine ⟨42, rfl, .inl ⟨e42, ?_⟩⟩
      simp [execOp, e45, e48, go_sem, softUpon, Fact.is, Below.refl]
    case s25 =>
      intro ρ W hb hc hf hr
      obtain ⟨r42, r49, -⟩ := hr
      have e42 : ρ (.tmp 42) = .bool true := r42
      clear r42
      have e49 : ρ (.tmp 49) = .bool true := r49
      clear r49
      refine under_none rfl ?_
      simp [execOp, e42, e49, hc, go_sem, softUpon, Fact.is, Below.refl]
    case s26 =>
      intro ρ W hb hc hf hr
      obtain ⟨r50, -⟩ := hr
      have e50 : ρ (.tmp 50) = .bool true := r50
      clear r50
      refine under_none rfl ?_
      exact ⟨e50, Below.refl _ _⟩
    case s27 =>
      intro ρ W hb hc hf hr
      obtain ⟨r6, r51, -⟩ := hr
      have e6 : ρ (.tmp 6) = vx := r6
      clear r6
      have e51 : ρ (.tmp 51) = .bool true := r51
      clear r51
      refine ⟨51, rfl, .inl ⟨e51, ?_⟩⟩
      exact ⟨e6, Below.refl _ _⟩
    case s28 =>
      intro ρ W hb hc hf hr
      obtain ⟨r52, r51, -⟩ := hr
      have e52 : ρ (.tmp 52) = vx := r52
      clear r52
      have e51 : ρ (.tmp 51) = .bool true := r51
      clear r51
      refine ⟨51, rfl, .inl ⟨e51, ?_⟩⟩
      exact soft_conv e52 (CX.out W hb) rfl
    case s29 =>
      intro ρ W hb hc hf hr
      obtain ⟨r8, r51, -⟩ := hr
      have e8 : ρ (.tmp 8) = vy := r8
      clear r8
      have e51 : ρ (.tmp 51) = .bool true := r51
      clear r51
      refine ⟨51, rfl, .inl ⟨e51, ?_⟩⟩
      exact ⟨e8, Below.refl _ _⟩
    case s30 =>
      intro ρ W hb hc hf hr
      obtain ⟨r54, r51, -⟩ := hr
      have e54 : ρ (.tmp 54) = vy := r54
      clear r54
      have e51 : ρ (.tmp 51) = .bool true := r51
      clear r51
      refine ⟨51, rfl, .inl ⟨e51, ?_⟩⟩
      exact soft_conv e54 (CY.out W hb) rfl
    case s31 =>
      intro ρ W hb hc hf hr
      obtain ⟨r53, r55, r51, -⟩ := hr
      have e53 : ρ (.tmp 53) = .string SX := r53
      clear r53
      have e55 : ρ (.tmp 55) = .string SX := r55
      clear r55
      have e51 : ρ (.tmp 51) = .bool true := r51
      clear r51
      refine ⟨51, rfl, .inl ⟨e51, ?_⟩⟩
      simp [execOp, e53, e55, go_sem, softUpon, Fact.is, Below.refl]
    case s32 =>
      intro ρ W hb hc hf hr
      obtain ⟨r51, r56, -⟩ := hr
      have e51 : ρ (.tmp 51) = .bool true := r51
      clear r51
      have e56 : ρ (.tmp 56) = .bool true := r56
      clear r56
      refine under_none rfl ?_
      simp [execOp, e51, e56, hc, go_sem, softUpon, Fact.is, Below.refl]
    case s33 =>
      intro ρ W hb hc hf hr
      obtain ⟨r57, -⟩ := hr
      have e57 : ρ (.tmp 57) = .bool true := r57
      clear r57
      refine under_none rfl ?_
      exact ⟨e57, Below.refl _ _⟩
    case s34 =>
      intro ρ W hb hc hf hr
      obtain ⟨r7, r58, -⟩ := hr
      have e7 : ρ (.tmp 7) = .bool o := r7
      clear r7
      have e58 : ρ (.tmp 58) = .bool true := r58
      clear r58
      refine ⟨58, rfl, .inl ⟨e58, ?_⟩⟩
      exact ⟨e7, Below.refl _ _⟩
    case s35 =>
      intro ρ W hb hc hf hr
      obtain ⟨r9, r58, -⟩ := hr
      have e9 : ρ (.tmp 9) = .bool o := r9
      clear r9
      have e58 : ρ (.tmp 58) = .bool true := r58
      clear r58
      refine ⟨58, rfl, .inl ⟨e58, ?_⟩⟩
      exact ⟨e9, Below.refl _ _⟩
    case s36 =>
      intro ρ W hb hc hf hr
      obtain ⟨r59, r60, r58, -⟩ := hr
      have e59 : ρ (.tmp 59) = .bool o := r59
      clear r59
      have e60 : ρ (.tmp 60) = .bool o := r60
      clear r60
      have e58 : ρ (.tmp 58) = .bool true := r58
      clear r58
      refine ⟨58, rfl, .inl ⟨e58, ?_⟩⟩
      simp [execOp, e59, e60, go_sem, softUpon, Fact.is, Below.refl]
    case s37 =>
      intro ρ W hb hc hf hr
      obtain ⟨r58, r61, -⟩ := hr
      have e58 : ρ (.tmp 58) = .bool true := r58
      clear r58
      have e61 : ρ (.tmp 61) = .bool true := r61
      clear r61
      refine under_none rfl ?_
      simp [execOp, e58, e61, hc, go_sem, softUpon, Fact.is, Below.refl]
    case s38 =>
      intro ρ W hb hc hf hr
      obtain ⟨r62, -⟩ := hr
      have e62 : ρ (.tmp 62) = .bool true := r62
      clear r62
      refine under_none rfl ?_
      exact ⟨e62, Below.refl _ _⟩
    case fin =>
      intro a w' hb hd hk
      have h4 : a.tmps.getD 4 undef = .bool true := hk 4
      clear hk
      go_wp2
      refine bodyPost_ret (results_tmp rfl _ _ _) hd ?_
      exact ⟨by rw [h4], HB.out.trans (hb.mono HB.out.size)⟩

theorem walk (w : World) (hT : Tab w) (a : Int) (ha : 0 ≤ a ∧ a ≤ 4294967295) (A : Option Addr) (cap : Nat) (bs : List UInt8) (hl : bs.length ≤ cap) (_ : cap ≤ maxLen) (hA : Lies w A (cells bs)) :
    Calls Tryd.prog 3 #[.int .u32 a, .slice A bs.length cap] w fun e w' => e = .returned (.bool true) ∧ Below w.heap.size w w' := by
  obtain ⟨s, rfl⟩ := Int.eq_ofNat_of_zero_le ha.1
  exact walkN w hT s (by omega) A cap bs.length bs rfl hl hA


set_option maxRecDepth 100000 in
theorem lifted (os : Os) (started : os.Started) (H : Type) (enc : TypeId × Value → H) :
    ReturnsInHanded {} Tryd.checked os 3 .any (fun w args => (Rows.crcTellsSpec.pre enc Tryd.prog Tryd.f3 [] false w args ∧ laidMetH Tryd.prog laidHere w) ∧ sizedMet enc Tryd.prog Tryd.f3 (OpenSpec.ofChange Rows.crcTellsSpec) false w args) (Rows.crcTellsSpec.post enc Tryd.prog Tryd.f3 false true false false) := by
  refine returnsInHanded_of_change_and (C := Tryd.checked) (X := fun w _ => laidMetH Tryd.prog laidHere w) (fun _ _ _ hh h => h.of_heap hh) own started (by kernel_rfl) Tryd.func3
    (ChangeSpec.witness_shaped (enc := enc) (C := Tryd.checked) (os := os) (X := fun w _ => laidMetH Tryd.prog laidHere w) false (World.doorLaid Tryd.prog doorSteps os) #[.int .u32 0, .slice none 0 0] 8 rfl (World.shaped_of_RefB (by kernel_rfl) (by kernel_rfl)) (by kernel_rfl) (by kernel_rfl) (by kernel_rfl) (door_met os _)) ?_
  intro W base args ds gs before hval0 hW _ _ hL _
  have hval : ∀ (j : Nat) t v, Tryd.f3.params[j]? = some t → args[j]? = some v → Value.okWide Tryd.prog W .any base t v := hval0
  have hfin := fun W' => law_post (enc := enc) (P := Tryd.prog) (f := Tryd.f3) (s := Rows.crcTellsSpec) (tb := 4) (W := W) (W' := W') (args := args) (ds := ds) (gs := gs) (before := before) laidOut rfl (by kernel_rfl) Tryd.underlying4 (by kernel_rfl) (fun xs h => by rw [Tryd.params3] at h; match xs, h with | [_, _], _ => rfl) hW
  have hlt : ∀ x ∈ before, x.block < W.heap.size := fun x hx => hW.lt x hx
  obtain ⟨p, q, hA0, hV, rfl, hfz, hnd⟩ := hW
  have hA : DataW.TrodAll enc Tryd.prog W 0 (fun _ => true) true Tryd.f3.params.toList args.toList ds p := hA0
  rw [Tryd.params3] at hA hval
  obtain ⟨v0, vs0, d0, ds0, p0, q0, hargs, rfl, rfl, h0, r0⟩ := trodAll_cons hA
  obtain ⟨v1, vs1, d1, ds1, p1, q1, rfl, rfl, rfl, h1, r1⟩ := trodAll_cons r0
  obtain ⟨rfl, rfl, rfl⟩ := trodAll_nil r1
  obtain rfl : args = #[v0, v1] := by cases args; simp_all
  obtain ⟨a0, rfl, rfl, rfl, w0⟩ := open_int Tryd.underlying22 (hval 0 22 v0 rfl rfl) h0
  obtain ⟨A1, cap1, b1, rfl, hl1, hm1, hB1⟩ := open_bytes (hval 1 23 v1 rfl rfl) h1 (fun x hx => hlt x (by simp [hx]))
  refine (walk W (of_laid hL) a0 (bounds_u32 w0) A1 cap1 b1 hl1 hm1 hB1).mono fun e W' ⟨he, hg⟩ => ?_
  subst he
  exact ⟨_, rfl, hfin W' hg⟩

theorem proved : Rows.CrcTellsSaid :=
  OpenClaim.holds_of_wide 3 Tryd.f3 rfl rfl rfl rfl rfl rfl rfl ⟨rfl, rfl, rfl, rfl, rfl⟩ rfl rfl rfl rfl rfl (by kernel_rfl) Tryd.func3 (by kernel_rfl)
    (of_decide_eq_true (by kernel_rfl)) (by unfold Func.isWrapper; first | (rw [if_pos (by decide +kernel)]; kernel_rfl) | (rw [if_neg (by decide +kernel)]; exact ⟨rfl, rfl⟩))
    (fun os started H enc _ => lifted os started H enc)

set_option maxRecDepth 100000 in
theorem card : Rows.CrcTellsCardSaid :=
  Claim7.holds_tied_plain_at .later [] laidKindsHere true _ false
    proved (fun _ h => by cases h) (by kernel_rfl) (fun _ h => by cases h) crcTells_row_tie rfl ⟨rfl, rfl⟩ (by kernel_rfl) rfl
    (fun f fn hf hfn => by
      obtain rfl : f = 3 := Option.some.inj ((show Tryd.prog.funcNamed "turntable/turntablelaw02.CrcTells" = some 3 by kernel_rfl).symm.trans hf) |>.symm
      obtain rfl : fn = Tryd.f3 := (Option.some.inj (Tryd.func3.symm.trans hfn)).symm
      exact ⟨by kernel_rfl, fun j t ht => by
        rw [Tryd.params3] at ht
        have hm : t ∈ [22, 23] := by simpa using Array.mem_of_getElem? ht
        have hall : ([22, 23].all fun u => !Tryd.prog.wantsStandIn u) = true := by kernel_rfl
        exact (show Tryd.prog.wantsStandIn t = false by simpa using List.all_eq_true.1 hall t hm)⟩)
    (by kernel_rfl)
#print axioms card
end Go.Proofs.YtnhlfmpfbfjohaaDoor.crcTells
