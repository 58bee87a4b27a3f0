/-
  Layer 6: the library's sorting that keeps alike ones in their order (slices.SortStableFunc and what it calls), at elements of so many cells: rows are exchanged, turned, merged and sorted. Nothing is assumed but what the sorting asks of the comparison.
-/
import Derived.Test.YtkhlgjkbkpbhiaaMath6
import Derived.Test.YtkhlgjkbkpbhiaaLay6
import Derived.Test.YtkhlgjkbkpbhiaaChecked
import Derived.Shelf.SlSortCmp.KitK
import Derived.Sort.WalkB2
import Derived.Sort.WalkB12
import Derived.Deep.LoopGhost
import Derived.Lib.Hide

namespace Go.Proofs.Ytkhlgjkbkpbhiaa
open Go.RowKit Go.Shelf Go.Lib Go.Sort

/-- what the walks ask of a program -/
structure StP (P : Program) (k : Nat) : Prop where
  mixed : P.follows .mixedOrders = true
  f31 : P.funcs[(31 : Nat)]? = some Try.f31
  f34 : P.funcs[(34 : Nat)]? = some Try.f34
  f35 : P.funcs[(35 : Nat)]? = some Try.f35
  f36 : P.funcs[(36 : Nat)]? = some Try.f36
  f37 : P.funcs[(37 : Nat)]? = some Try.f37
  t0 : P.underlying 0 = some (TypeDesc.tuple #[])
  a0 : ∀ w, (isAgg 0).run P w = .ok false w
  z0 : ∀ w, (Go.sizeOf 0).run P w = .ok 1 w
  v0 : ∀ w, (zeroValue 0).run P w = .ok (Value.tuple #[]) w
  t3 : P.underlying 3 = some (TypeDesc.int IntKind.i64)
  a3 : ∀ w, (isAgg 3).run P w = .ok false w
  z3 : ∀ w, (Go.sizeOf 3).run P w = .ok 1 w
  v3 : ∀ w, (zeroValue 3).run P w = .ok (Value.int IntKind.i64 0) w
  t4 : P.underlying 4 = some (TypeDesc.bool)
  a4 : ∀ w, (isAgg 4).run P w = .ok false w
  z4 : ∀ w, (Go.sizeOf 4).run P w = .ok 1 w
  v4 : ∀ w, (zeroValue 4).run P w = .ok (Value.bool false) w
  t22 : P.underlying 22 = some (TypeDesc.slice 24)
  a22 : ∀ w, (isAgg 22).run P w = .ok false w
  z22 : ∀ w, (Go.sizeOf 22).run P w = .ok 1 w
  v22 : ∀ w, (zeroValue 22).run P w = .ok (Value.slice none 0 0) w
  t25 : P.underlying 47 = some (TypeDesc.func #[24, 24] #[3] false)
  a25 : ∀ w, (isAgg 47).run P w = .ok false w
  z25 : ∀ w, (Go.sizeOf 47).run P w = .ok 1 w
  v25 : ∀ w, (zeroValue 47).run P w = .ok (Value.nilFunc) w
  t58 : P.underlying 58 = some (TypeDesc.int IntKind.u64)
  a58 : ∀ w, (isAgg 58).run P w = .ok false w
  z58 : ∀ w, (Go.sizeOf 58).run P w = .ok 1 w
  v58 : ∀ w, (zeroValue 58).run P w = .ok (Value.int IntKind.u64 0) w
  aE : ∀ w, (isAgg 24).run P w = .ok true w
  zE : ∀ w, (Go.sizeOf 24).run P w = .ok k w

variable {P : Program} {k : Nat} {α : Type} [Inhabited α]

set_option maxHeartbeats 4000000 in
set_option maxRecDepth 1000000 in
theorem swapRange_p (L : StP P k) (enc : α → List Value) (g : Nat) (cb : Array Value) (blk off cap a b n sz : Nat) (d0 d : Array α) (w0 w : World)
    (R : RowK enc k w0 blk off d0) (hs0 : d0.size = sz) (hsd : d.size = sz) (S : SWK enc k w0 blk off d w) (pre X mid Y post : List α) (hd : d.toList = pre ++ (X ++ (mid ++ (Y ++ post)))) (ha : pre.length = a) (hX : X.length = n) (hY : Y.length = n) (hb : a + n + mid.length = b) (hsz : sz < 4611686018427387904) :
    Calls P 37 #[.slice (some ⟨blk, off, none⟩) sz cap, .int .i64 a, .int .i64 b, .int .i64 n, .func (.func g) #[] cb] w fun e w' => e = .returned (.tuple #[]) ∧ ∃ d' : Array α, d'.size = sz ∧ SWK enc k w0 blk off d' w' ∧ d'.toList = pre ++ (Y ++ (mid ++ (X ++ post))) := by
  have mixed := L.mixed; have t0 := L.t0; have a0 := L.a0; have z0 := L.z0; have v0 := L.v0; have t3 := L.t3; have a3 := L.a3; have z3 := L.z3; have v3 := L.v3; have t4 := L.t4; have a4 := L.a4; have z4 := L.z4; have v4 := L.v4; have t22 := L.t22; have a22 := L.a22; have z22 := L.z22; have v22 := L.v22; have t25 := L.t25; have a25 := L.a25; have z25 := L.z25; have v25 := L.v25
  have aE := L.aE; have zE := L.zE
  have FG := L.f37
  have hbn : b + n ≤ sz := by
    have := congrArg List.length hd
    simp only [List.length_append, Array.length_toList] at this
    omega
  have S0 : Aside (SWK enc k w0 blk off d w) := S
  have D0 : Aside (d.toList = pre ++ (X ++ (mid ++ (Y ++ post)))) := hd
  have HX : Aside (X.length = n) := hX
  have HY : Aside (Y.length = n) := hY
  have HB : Aside (a + n + mid.length = b) := hb
  have HA : Aside (pre.length = a) := ha
  have hab : a + n ≤ b := by omega
  clear S hd hX hY hb ha
  go_enter FG, Try.ntmps37
  go_wp2
  go_loopg [10] n (fun kx s10 wr => ∃ (i : Nat) (dk : Array α), s10 = .int .i64 i ∧ i ≤ n ∧ n - i ≤ kx ∧ dk.size = sz ∧ Aside (SWK enc k w0 blk off dk wr) ∧ Aside (dk.toList = pre ++ (Y.take i ++ (X.drop i ++ (mid ++ (X.take i ++ (Y.drop i ++ post)))))))
  case atStart => exact ⟨0, d, rfl, Nat.zero_le _, by omega, hsd, S0, by show d.toList = _; rw [D0.out]; simp⟩
  case round =>
    clear S0 D0
    obtain ⟨i, dk, rfl, hin, hkx, hds, S1, D1⟩ := hrel
    by_cases hlt : i < n
    · have hltz : (i : Int) < (n : Int) := by omega
      obtain ⟨p, hp⟩ : ∃ p, a + i = p := ⟨_, rfl⟩
      obtain ⟨q, hq⟩ : ∃ q, b + i = q := ⟨_, rfl⟩
      have wp_ : IntKind.i64.wrap ((a : Int) + (i : Int)) = (p : Int) := by rw [IntKind.wrap_i64]; omega
      have wq_ : IntKind.i64.wrap ((b : Int) + (i : Int)) = (q : Int) := by rw [IntKind.wrap_i64]; omega
      have ea : ((p : Int)).toNat = p := by omega
      have pa : (0 : Int) ≤ (p : Int) := by omega
      have ba : (p : Int) < (sz : Int) := by omega
      have ec : ((q : Int)).toNat = q := by omega
      have pc : (0 : Int) ≤ (q : Int) := by omega
      have bc : (q : Int) < (sz : Int) := by omega
      have S2 : Aside (SWK enc k w0 blk off (swp dk p q) ((wr.drew.setCells blk (off + p * k) (enc dk[q]!)).setCells blk (off + q * k) (enc dk[p]!))) := S1.out.swapped R p q (by omega) (by omega)
      have la := S1.out.ld1 R (by omega) P p (by omega)
      have lb := S1.out.ld1 R (by omega) P q (by omega)
      have sa := S1.out.st1 R (by omega) P p (by omega) dk[q]!
      have sb := S1.out.st2 R (by omega) P p q (by omega) (by omega) dk[q]! dk[p]!
      have na : (enc dk[p]!).length = k := R.hk _
      have nb : (enc dk[q]!).length = k := R.hk _
      generalize enc dk[p]! = cI at S2 la sb na
      generalize enc dk[q]! = cJ at S2 lb sa sb nb
      clear S1
      have HP : Aside (a + i = p) := hp
      have HQ : Aside (b + i = q) := hq
      clear hp hq
      go_wp2_with fail
      go_big_region_o
      clear la lb sa sb
      generalize (wr.drew.setCells blk (off + p * k) cJ).setCells blk (off + q * k) cI = w2 at S2 ⊢
      go_wp2
      go_roundg (n - (i + 1))
      case measure => omega
      case rel => exact ⟨i + 1, swp dk p q, by go_num, by omega, Nat.le_refl _, by rw [size_swp]; exact hds, S2, Plain.swap_step D1.out HX.out HY.out hlt (by rw [HA.out]; exact HP.out) (by rw [HA.out, HB.out]; exact HQ.out)⟩
    · obtain rfl : i = n := by omega
      go_wp2
      go_end0
      refine ⟨rfl, dk, hds, S1.out, ?_⟩
      have e1 : Y.take i = Y := List.take_of_length_le (by rw [HY.out]; omega)
      have e2 : X.take i = X := List.take_of_length_le (by rw [HX.out]; omega)
      have e3 : X.drop i = [] := List.drop_eq_nil_of_le (by rw [HX.out]; omega)
      have e4 : Y.drop i = [] := List.drop_eq_nil_of_le (by rw [HY.out]; omega)
      rw [D1.out, e1, e2, e3, e4]; rfl
set_option maxHeartbeats 4000000 in
set_option maxRecDepth 1000000 in
theorem rotate_p (L : StP P k) (enc : α → List Value) (g : Nat) (cb : Array Value) (blk off cap a m b sz : Nat) (d0 d : Array α) (w0 w : World)
    (R : RowK enc k w0 blk off d0) (hs0 : d0.size = sz) (hsd : d.size = sz) (S : SWK enc k w0 blk off d w) (pre X Y post : List α) (hd : d.toList = pre ++ (X ++ (Y ++ post))) (ha : pre.length = a) (hX : a + X.length = m) (hY : m + Y.length = b) (hX0 : 0 < X.length) (hY0 : 0 < Y.length) (hsz : sz < 4611686018427387904) :
    Calls P 36 #[.slice (some ⟨blk, off, none⟩) sz cap, .int .i64 a, .int .i64 m, .int .i64 b, .func (.func g) #[] cb] w fun e w' => e = .returned (.tuple #[]) ∧ ∃ d' : Array α, d'.size = sz ∧ SWK enc k w0 blk off d' w' ∧ d'.toList = pre ++ (Y ++ (X ++ post)) := by
  have mixed := L.mixed; have t0 := L.t0; have a0 := L.a0; have z0 := L.z0; have v0 := L.v0; have t3 := L.t3; have a3 := L.a3; have z3 := L.z3; have v3 := L.v3; have t4 := L.t4; have a4 := L.a4; have z4 := L.z4; have v4 := L.v4; have t22 := L.t22; have a22 := L.a22; have z22 := L.z22; have v22 := L.v22; have t25 := L.t25; have a25 := L.a25; have z25 := L.z25; have v25 := L.v25
  have FG := L.f36
  have e37 : ∀ args w, (callFunc 37 args).run P w = .ok (.enter 37 args) w := enters_of L.f37 (by kernel_rfl) rfl
  have hbn : b ≤ sz := by
    have := congrArg List.length hd
    simp only [List.length_append, Array.length_toList] at this
    omega
  have HL : Aside (StP P k) := L
  have S0 : Aside (SWK enc k w0 blk off d w) := S
  have D0 : Aside (d.toList = pre ++ (X ++ (Y ++ post)) ∧ pre.length = a ∧ a + X.length = m ∧ m + Y.length = b ∧ 0 < X.length ∧ 0 < Y.length) := ⟨hd, ha, hX, hY, hX0, hY0⟩
  have w1 : IntKind.i64.wrap ((m : Int) - (a : Int)) = ((m - a : Nat) : Int) := by rw [IntKind.wrap_i64]; omega
  have w2 : IntKind.i64.wrap ((b : Int) - (m : Int)) = ((b - m : Nat) : Int) := by rw [IntKind.wrap_i64]; omega
  clear S hd hX hY ha hX0 hY0 L
  go_enter FG, Try.ntmps36
  go_wp2
  go_loopg [10, 11] (b - a) (fun kx s10 s11 wr => ∃ (i j : Nat) (dk : Array α) (pre' X' Y' post' : List α), s10 = .int .i64 i ∧ s11 = .int .i64 j ∧ i + j ≤ kx ∧ 0 < i ∧ 0 < j ∧ i ≤ m ∧ m + j ≤ sz ∧ dk.size = sz ∧ Aside (SWK enc k w0 blk off dk wr) ∧
    Aside (dk.toList = pre' ++ (X' ++ (Y' ++ post')) ∧ pre'.length + i = m ∧ X'.length = i ∧ Y'.length = j ∧ pre' ++ (Y' ++ (X' ++ post')) = pre ++ (Y ++ (X ++ post))))
  case atStart =>
    obtain ⟨h1, h2, h3, h4, h5, h6⟩ := D0.out
    exact ⟨m - a, b - m, d, pre, X, Y, post, by first | rfl | simp [w1], by first | rfl | simp [w2], by omega, by omega, by omega, by omega, by omega, hsd, S0, h1, by omega, by omega, by omega, rfl⟩
  case round =>
    clear S0 D0 w1 w2
    obtain ⟨i, j, dk, pre', X', Y', post', rfl, rfl, hkx, hi0, hj0, him, hmj, hds, S1, D1⟩ := hrel
    obtain ⟨u, hu⟩ : ∃ u, m - i = u := ⟨_, rfl⟩
    have wu : IntKind.i64.wrap ((m : Int) - (i : Int)) = (u : Int) := by rw [IntKind.wrap_i64]; omega
    by_cases hij : i = j
    · subst hij
      have HS := Lib.hid (swapRange_p HL.out enc g cb blk off cap u m i sz d0 dk w0 wr R hs0 hds S1.out pre' X' [] Y' post' (by rw [D1.out.1]; rfl) (by have := D1.out.2.1; omega) D1.out.2.2.1 D1.out.2.2.2.1 (by simp; omega) hsz)
      clear S1
      go_wp2_with (go_at_fn 37; refine HS.out.mono ?_; rintro e w3 ⟨rfl, d', hd1, hd2, hd3⟩)
      go_end0
      exact ⟨rfl, d', hd1, hd2, by rw [hd3, ← D1.out.2.2.2.2]; rfl⟩
    · have hne : ¬ (i : Int) = (j : Int) := by omega
      by_cases hgt : j < i
      · have hgtz : (j : Int) < (i : Int) := by omega
        have HS := Lib.hid (swapRange_p HL.out enc g cb blk off cap u m j sz d0 dk w0 wr R hs0 hds S1.out pre' (X'.take j) (X'.drop j) Y' post' (by rw [D1.out.1, ← List.append_assoc (X'.take j), List.take_append_drop]) (by have := D1.out.2.1; omega) (by have := D1.out.2.2.1; simp; omega) D1.out.2.2.2.1 (by have := D1.out.2.2.1; simp; omega) hsz)
        have wr1 : IntKind.i64.wrap ((i : Int) - (j : Int)) = ((i - j : Nat) : Int) := by rw [IntKind.wrap_i64]; omega
        clear S1
        go_wp2_with (go_at_fn 37; refine HS.out.mono ?_; rintro e w3 ⟨rfl, d', hd1, hd2, hd3⟩)
        have S2 : Aside (SWK enc k w0 blk off d' w3) := hd2
        have D2 := Lib.hid hd3
        clear hd2 hd3
        go_roundg (i - j + j)
        case measure => omega
        case rel =>
          obtain ⟨h1, h2, h3, h4, h5⟩ := D1.out
          refine ⟨i - j, j, d', pre' ++ Y', X'.drop j, X'.take j, post', by first | rfl | simp [wr1], rfl, Nat.le_refl _, by omega, hj0, by omega, hmj, hd1, S2, ?_, by simp; omega, by simp; omega, by simp; omega, ?_⟩
          · rw [D2.out, List.append_assoc]
          · rw [← h5, List.append_assoc, ← List.append_assoc (X'.take j), List.take_append_drop]
      · have hgtz : ¬ (j : Int) < (i : Int) := by omega
        obtain ⟨v, hv⟩ : ∃ v, m + j - i = v := ⟨_, rfl⟩
        have wv0 : IntKind.i64.wrap ((m : Int) + (j : Int)) = (m : Int) + (j : Int) := by rw [IntKind.wrap_i64]; omega
        have wv1 : IntKind.i64.wrap ((m : Int) + (j : Int) - (i : Int)) = (v : Int) := by rw [IntKind.wrap_i64]; omega
        have wv : IntKind.i64.wrap (IntKind.i64.wrap ((m : Int) + (j : Int)) - (i : Int)) = (v : Int) := by rw [wv0]; exact wv1
        have HS := Lib.hid (swapRange_p HL.out enc g cb blk off cap u v i sz d0 dk w0 wr R hs0 hds S1.out pre' X' (Y'.take (j - i)) (Y'.drop (j - i)) post' (by rw [D1.out.1, ← List.append_assoc (Y'.take (j - i)), List.take_append_drop]) (by have := D1.out.2.1; omega) D1.out.2.2.1 (by have := D1.out.2.2.2.1; simp; omega) (by have := D1.out.2.2.2.1; simp; omega) hsz)
        have wr1 : IntKind.i64.wrap ((j : Int) - (i : Int)) = ((j - i : Nat) : Int) := by rw [IntKind.wrap_i64]; omega
        clear S1
        go_wp2_with (go_at_fn 37; refine HS.out.mono ?_; rintro e w3 ⟨rfl, d', hd1, hd2, hd3⟩)
        have S2 : Aside (SWK enc k w0 blk off d' w3) := hd2
        have D2 := Lib.hid hd3
        clear hd2 hd3
        go_roundg (i + (j - i))
        case measure => omega
        case rel =>
          obtain ⟨h1, h2, h3, h4, h5⟩ := D1.out
          refine ⟨i, j - i, d', pre', Y'.drop (j - i), Y'.take (j - i), X' ++ post', rfl, by first | rfl | simp [wr1], Nat.le_refl _, hi0, by omega, him, by omega, hd1, S2, D2.out, by omega, by simp; omega, by simp; omega, ?_⟩
          rw [← h5, ← List.append_assoc (Y'.take (j - i)), List.take_append_drop]
end Go.Proofs.Ytkhlgjkbkpbhiaa
