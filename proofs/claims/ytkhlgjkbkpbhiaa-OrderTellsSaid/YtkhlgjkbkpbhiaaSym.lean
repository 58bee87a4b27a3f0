/-
  Layer 6: the library's merging of two rows in place, at elements of so many cells: where one of them has one. Nothing is assumed but what the sorting asks of the comparison.
-/
import Derived.Test.YtkhlgjkbkpbhiaaSta

namespace Go.Proofs.Ytkhlgjkbkpbhiaa
open Go.RowKit Go.Shelf Go.Lib Go.Sort
variable {P : Program} {k : Nat} {α : Type} [Inhabited α]

set_option maxHeartbeats 4000000 in
set_option maxRecDepth 1000000 in
theorem symOne_p (L : StP P k) (enc : α → List Value) (cf : α → α → Int) (hO : SWO (ltOf cf)) (g : Nat) (cb : Array Value) (eg : ∀ args w, (callFunc g args).run P w = .ok (.enter g args) w) (blk off cap a m b sz : Nat) (d0 d : Array α) (w0 w : World)
    (hcmp : CmpLays P g cb enc k cf blk off sz w0) (R : RowK enc k w0 blk off d0) (hs0 : d0.size = sz) (hsd : d.size = sz) (S : SWK enc k w0 blk off d w) (pre : List α) (x : α) (B post : List α) (hd : d.toList = pre ++ ([x] ++ (B ++ post))) (ha : pre.length = a) (hX : a + 1 = m) (hY : m + B.length = b) (hY0 : 0 < B.length) (SB : Plain.Srt (ltOf cf) B) (hsz : sz < 4611686018427387904) :
    Calls P 35 #[.slice (some ⟨blk, off, none⟩) sz cap, .int .i64 a, .int .i64 m, .int .i64 b, .func (.func g) #[] cb] w fun e w' => e = .returned (.tuple #[]) ∧ ∃ d' : Array α, d'.size = sz ∧ SWK enc k w0 blk off d' w' ∧ d'.toList = pre ++ (Plain.mrg (ltOf cf) [x] B ++ post) := by
  have mixed := L.mixed; have t0 := L.t0; have a0 := L.a0; have z0 := L.z0; have v0 := L.v0; have t3 := L.t3; have a3 := L.a3; have z3 := L.z3; have v3 := L.v3; have t4 := L.t4; have a4 := L.a4; have z4 := L.z4; have v4 := L.v4; have t22 := L.t22; have a22 := L.a22; have z22 := L.z22; have v22 := L.v22; have t25 := L.t25; have a25 := L.a25; have z25 := L.z25; have v25 := L.v25; have t58 := L.t58; have a58 := L.a58; have z58 := L.z58; have v58 := L.v58
  have aE := L.aE; have zE := L.zE
  have FG := L.f35
  have HC : Aside (CmpLays P g cb enc k cf blk off d0.size w0) := by rw [hs0]; exact hcmp
  have hbn : b ≤ sz := by
    have := congrArg List.length hd
    simp only [List.length_append, Array.length_toList, List.length_cons, List.length_nil] at this
    omega
  have hx : d[a]! = x := by have := Plain.at_list (d := d) (P := pre) (x := x) (R := B ++ post) (by rw [hd]; rfl); rw [ha] at this; exact this
  have sb : SortedIn (ltOf cf) m b d := by
    have := Plain.seg_sorted (lt := ltOf cf) (d := d) (P := pre ++ [x]) (B := B) (Q := post) (by rw [hd]; simp) SB
    rw [List.length_append, ha, List.length_singleton, hX, hY] at this; exact this
  have mono : ∀ c c', m ≤ c → c ≤ c' → c' < b → ltOf cf d[c']! d[a]! = true → ltOf cf d[c]! d[a]! = true := fun c c' h1 h2 h3 h4 => by
    rcases Nat.lt_or_ge c c' with h | h
    · cases h5 : ltOf cf d[c]! d[a]! with
      | true => rfl
      | false => rw [hO.ntrans _ _ _ (sb c c' h1 h h3) h5] at h4; cases h4
    · rw [show c = c' by omega]; exact h4
  have MONO : Aside _ := mono
  have S0 : Aside (SWK enc k w0 blk off d w) := S
  have D0 : Aside (d.toList = pre ++ ([x] ++ (B ++ post)) ∧ pre.length = a ∧ m + B.length = b ∧ d[a]! = x) := ⟨hd, ha, hY, hx⟩
  have w1 : IntKind.i64.wrap ((m : Int) - (a : Int)) = 1 := by rw [IntKind.wrap_i64]; omega
  have hmb : m < b := by omega
  clear S hd hY ha hY0 L hcmp mono sb hx SB
  go_enter FG, Try.ntmps35
  go_wp2
  go_loopg [10, 11] (b - m) (fun kx s10 s11 wr => ∃ (i j : Nat), s10 = .int .i64 i ∧ s11 = .int .i64 j ∧ j - i ≤ kx ∧ m ≤ i ∧ i ≤ j ∧ j ≤ b ∧ Aside (SWK enc k w0 blk off d wr) ∧ Aside ((∀ c, m ≤ c → c < i → ltOf cf d[c]! d[a]! = true) ∧ (∀ c, j ≤ c → c < b → ltOf cf d[c]! d[a]! = false)))
  case atStart => exact ⟨m, b, rfl, rfl, Nat.le_refl _, Nat.le_refl _, by omega, Nat.le_refl _, S0, fun c h1 h2 => by omega, fun c h1 h2 => by omega⟩
  case round =>
    clear S0
    obtain ⟨i, j, rfl, rfl, hkx, hmi, hij, hjb, S1, D1⟩ := hrel
    by_cases hlt : i < j
    · have hltz : (i : Int) < (j : Int) := by omega
      obtain ⟨h, hh⟩ : ∃ h, (i + j) / 2 = h := ⟨_, rfl⟩
      have wh : ((i : Int) + (j : Int)) / 2 = (h : Int) := by omega
      have hih : i ≤ h := by omega
      have hhj : h < j := by omega
      clear hh
      cases hlv : ltOf cf d[h]! d[a]! with
      | true =>
        have eaP : ((h : Nat) : Int).toNat = h := by omega
        have paP : (0 : Int) ≤ ((h : Nat) : Int) := by omega
        have baP : ((h : Nat) : Int) < (sz : Int) := by omega
        have eaQ : ((a : Nat) : Int).toNat = a := by omega
        have paQ : (0 : Int) ≤ ((a : Nat) : Int) := by omega
        have baQ : ((a : Nat) : Int) < (sz : Int) := by omega
        obtain ⟨xp, hxp⟩ : ∃ x, x = d[h]! := ⟨_, rfl⟩
        obtain ⟨xq, hxq⟩ : ∃ x, x = d[a]! := ⟨_, rfl⟩
        have la := S1.out.ld R (by omega) P h (by omega)
        have lb := S1.out.ld R (by omega) P a (by omega)
        rw [← hxp] at la
        rw [← hxq] at lb
        have hc := S1.out.cmp HC.out (by omega) xp xq
        have hv : cf xp xq < 0 := by rw [hxp, hxq]; exact of_decide_eq_true hlv
        have hdv : decide (cf xp xq < 0) = true := decide_eq_true hv
        clear hxp hxq
        go_wp2_with fail
        go_quiet_grown (first | (go_at_fn g; refine Calls.grown_of (hc _ _)))
        have S2 : Aside (SWK enc k w0 blk off d (grow (wr.drewN nq) osq)) := S1.out.grown nq osq
        clear la lb hc S1
        generalize grow (wr.drewN nq) osq = w2 at S2 ⊢
        clear nq osq
        go_wp2
        go_roundg (j - (h + 1))
        case measure => omega
        case rel => exact ⟨h + 1, j, by go_num, rfl, Nat.le_refl _, by omega, by omega, hjb, S2, fun c h1 h2 => MONO.out c h h1 (by omega) (by omega) hlv, D1.out.2⟩
      | false =>
        have eaP : ((h : Nat) : Int).toNat = h := by omega
        have paP : (0 : Int) ≤ ((h : Nat) : Int) := by omega
        have baP : ((h : Nat) : Int) < (sz : Int) := by omega
        have eaQ : ((a : Nat) : Int).toNat = a := by omega
        have paQ : (0 : Int) ≤ ((a : Nat) : Int) := by omega
        have baQ : ((a : Nat) : Int) < (sz : Int) := by omega
        obtain ⟨xp, hxp⟩ : ∃ x, x = d[h]! := ⟨_, rfl⟩
        obtain ⟨xq, hxq⟩ : ∃ x, x = d[a]! := ⟨_, rfl⟩
        have la := S1.out.ld R (by omega) P h (by omega)
        have lb := S1.out.ld R (by omega) P a (by omega)
        rw [← hxp] at la
        rw [← hxq] at lb
        have hc := S1.out.cmp HC.out (by omega) xp xq
        have hv : ¬ cf xp xq < 0 := by rw [hxp, hxq]; exact of_decide_eq_false hlv
        have hdv : decide (cf xp xq < 0) = false := decide_eq_false hv
        clear hxp hxq
        go_wp2_with fail
        go_quiet_grown (first | (go_at_fn g; refine Calls.grown_of (hc _ _)))
        have S2 : Aside (SWK enc k w0 blk off d (grow (wr.drewN nq) osq)) := S1.out.grown nq osq
        clear la lb hc S1
        generalize grow (wr.drewN nq) osq = w2 at S2 ⊢
        clear nq osq
        go_wp2
        go_roundg (h - i)
        case measure => omega
        case rel =>
          refine ⟨i, h, rfl, rfl, Nat.le_refl _, hmi, hih, by omega, S2, D1.out.1, fun c h1 h2 => ?_⟩
          cases hq : ltOf cf d[c]! d[a]! with
          | false => rfl
          | true => rw [MONO.out h c (by omega) h1 h2 hq] at hlv; cases hlv
    · have hltz : ¬ (i : Int) < (j : Int) := by omega
      obtain rfl : i = j := by omega
      have E1 := Lib.hid (Plain.sym_one (lt := ltOf cf) (d := d) (i := i) (m := m) (b := b) (x := x) D0.out.1 (by have := D0.out.2.1; omega) D0.out.2.2.1 hmi hjb (by have := D1.out.1; rw [D0.out.2.2.2] at this; exact this) (by have := D1.out.2; rw [D0.out.2.2.2] at this; exact this))
      have wi : IntKind.i64.wrap ((i : Int) - 1) = (i : Int) - 1 := by rw [IntKind.wrap_i64]; omega
      clear D1 MONO
      go_wp2
      go_loopg [13] (i - a) (fun kx s13 wr2 => ∃ (t : Nat) (dk : Array α), s13 = .int .i64 (a + t : Nat) ∧ m + t ≤ i ∧ i - (m + t) ≤ kx ∧ dk.size = sz ∧ Aside (SWK enc k w0 blk off dk wr2) ∧ Aside (dk.toList = pre ++ (B.take t ++ (x :: (B.drop t ++ post)))))
      case atStart => exact ⟨0, d, rfl, by omega, by omega, hsd, S1, by show d.toList = _; rw [D0.out.1]; rfl⟩
      case round =>
        clear S1
        obtain ⟨t, dk, rfl, hti, hkx2, hds, S3, D3⟩ := hrel
        obtain ⟨p, hp⟩ : ∃ p, a + t = p := ⟨_, rfl⟩
        rw [hp]
        by_cases hlt2 : m + t < i
        · have hltz2 : (p : Int) < (i : Int) - 1 := by omega
          have wp1 : IntKind.i64.wrap ((p : Int) + 1) = ((p + 1 : Nat) : Int) := by rw [IntKind.wrap_i64]; omega
          have eaP : ((p : Nat) : Int).toNat = p := by omega
          have paP : (0 : Int) ≤ ((p : Nat) : Int) := by omega
          have baP : ((p : Nat) : Int) < (sz : Int) := by omega
          have eaQ : ((p + 1 : Nat) : Int).toNat = p + 1 := by omega
          have paQ : (0 : Int) ≤ ((p + 1 : Nat) : Int) := by omega
          have baQ : ((p + 1 : Nat) : Int) < (sz : Int) := by omega
          have S2 : Aside (SWK enc k w0 blk off (swp dk (p) (p + 1)) ((wr.drew.setCells blk (off + (p) * k) (enc dk[p + 1]!)).setCells blk (off + (p + 1) * k) (enc dk[p]!))) := S3.out.swapped R (p) (p + 1) (by omega) (by omega)
          have la := S3.out.ld1 R (by omega) P (p) (by omega)
          have lb := S3.out.ld1 R (by omega) P (p + 1) (by omega)
          have sa := S3.out.st1 R (by omega) P (p) (by omega) dk[p + 1]!
          have sb := S3.out.st2 R (by omega) P (p) (p + 1) (by omega) (by omega) dk[p + 1]! dk[p]!
          have na : (enc dk[p]!).length = k := R.hk _
          have nb : (enc dk[p + 1]!).length = k := R.hk _
          generalize enc dk[p]! = cI at S2 la sb na
          generalize enc dk[p + 1]! = cJ at S2 lb sa sb nb
          clear S3
          go_wp2_with fail
          go_big_region_o
          clear la lb sa sb
          generalize (wr.drew.setCells blk (off + (p) * k) cJ).setCells blk (off + (p + 1) * k) cI = w2 at S2 ⊢
          go_wp2
          go_roundg (i - (m + (t + 1)))
          case measure => omega
          case rel => exact ⟨t + 1, swp dk p (p + 1), by first | go_num | (congr 1; omega), by omega, Nat.le_refl _, by rw [size_swp]; exact hds, S2, Plain.move_right D3.out (by have := D0.out.2.2.1; omega) (by rw [D0.out.2.1]; exact hp)⟩
        · have hltz2 : ¬ (p : Int) < (i : Int) - 1 := by omega
          go_wp2
          refine bodyPost_ret (results_none rfl _ _ _) rfl ?_
          refine ⟨rfl, dk, hds, S3.out, ?_⟩
          rw [D3.out, E1.out, show i - m = t by omega]; simp

set_option maxHeartbeats 4000000 in
set_option maxRecDepth 1000000 in
theorem symLast_p (L : StP P k) (enc : α → List Value) (cf : α → α → Int) (hO : SWO (ltOf cf)) (g : Nat) (cb : Array Value) (eg : ∀ args w, (callFunc g args).run P w = .ok (.enter g args) w) (blk off cap a m b sz : Nat) (d0 d : Array α) (w0 w : World)
    (hcmp : CmpLays P g cb enc k cf blk off sz w0) (R : RowK enc k w0 blk off d0) (hs0 : d0.size = sz) (hsd : d.size = sz) (S : SWK enc k w0 blk off d w) (pre A : List α) (y : α) (post : List α) (hd : d.toList = pre ++ (A ++ ([y] ++ post))) (ha : pre.length = a) (hX : a + A.length = m) (hY : m + 1 = b) (hX0 : 2 ≤ A.length) (SA : Plain.Srt (ltOf cf) A) (hsz : sz < 4611686018427387904) :
    Calls P 35 #[.slice (some ⟨blk, off, none⟩) sz cap, .int .i64 a, .int .i64 m, .int .i64 b, .func (.func g) #[] cb] w fun e w' => e = .returned (.tuple #[]) ∧ ∃ d' : Array α, d'.size = sz ∧ SWK enc k w0 blk off d' w' ∧ d'.toList = pre ++ (Plain.mrg (ltOf cf) A [y] ++ post) := by
  have mixed := L.mixed; have t0 := L.t0; have a0 := L.a0; have z0 := L.z0; have v0 := L.v0; have t3 := L.t3; have a3 := L.a3; have z3 := L.z3; have v3 := L.v3; have t4 := L.t4; have a4 := L.a4; have z4 := L.z4; have v4 := L.v4; have t22 := L.t22; have a22 := L.a22; have z22 := L.z22; have v22 := L.v22; have t25 := L.t25; have a25 := L.a25; have z25 := L.z25; have v25 := L.v25; have t58 := L.t58; have a58 := L.a58; have z58 := L.z58; have v58 := L.v58
  have aE := L.aE; have zE := L.zE
  have FG := L.f35
  have HC : Aside (CmpLays P g cb enc k cf blk off d0.size w0) := by rw [hs0]; exact hcmp
  have hbn : b ≤ sz := by
    have := congrArg List.length hd
    simp only [List.length_append, Array.length_toList, List.length_cons, List.length_nil] at this
    omega
  have hx : d[m]! = y := by have := Plain.at_list (d := d) (P := pre ++ A) (x := y) (R := post) (by rw [hd]; simp); rw [List.length_append, ha, hX] at this; exact this
  have sa : SortedIn (ltOf cf) a m d := by
    have := Plain.seg_sorted (lt := ltOf cf) hd SA
    rw [ha, hX] at this; exact this
  have mono : ∀ c c', a ≤ c → c ≤ c' → c' < m → ltOf cf d[m]! d[c']! = false → ltOf cf d[m]! d[c]! = false := fun c c' h1 h2 h3 h4 => by
    rcases Nat.lt_or_ge c c' with h | h
    · exact hO.ntrans _ _ _ h4 (sa c c' h1 h h3)
    · rw [show c = c' by omega]; exact h4
  have MONO : Aside _ := mono
  have S0 : Aside (SWK enc k w0 blk off d w) := S
  have D0 : Aside (d.toList = pre ++ (A ++ ([y] ++ post)) ∧ pre.length = a ∧ a + A.length = m ∧ d[m]! = y) := ⟨hd, ha, hX, hx⟩
  have w1 : IntKind.i64.wrap ((m : Int) - (a : Int)) = (m : Int) - (a : Int) := by rw [IntKind.wrap_i64]; omega
  have w1n : ¬ (m : Int) - (a : Int) = 1 := by omega
  have w1b : ((m : Int) - (a : Int) == 1) = false := by simp [w1n]
  have w2 : IntKind.i64.wrap ((b : Int) - (m : Int)) = 1 := by rw [IntKind.wrap_i64]; omega
  have ham : a < m := by omega
  clear S hd hX ha hX0 L hcmp mono sa hx SA
  go_enter FG, Try.ntmps35
  go_wp2
  go_loopg [14, 15] (m - a) (fun kx s14 s15 wr => ∃ (i j : Nat), s14 = .int .i64 i ∧ s15 = .int .i64 j ∧ j - i ≤ kx ∧ a ≤ i ∧ i ≤ j ∧ j ≤ m ∧ Aside (SWK enc k w0 blk off d wr) ∧ Aside ((∀ c, a ≤ c → c < i → ltOf cf d[m]! d[c]! = false) ∧ (∀ c, j ≤ c → c < m → ltOf cf d[m]! d[c]! = true)))
  case atStart => exact ⟨a, m, rfl, rfl, Nat.le_refl _, Nat.le_refl _, by omega, Nat.le_refl _, S0, fun c h1 h2 => by omega, fun c h1 h2 => by omega⟩
  case round =>
    clear S0 w1 w1n w1b w2
    obtain ⟨i, j, rfl, rfl, hkx, hmi, hij, hjb, S1, D1⟩ := hrel
    by_cases hlt : i < j
    · have hltz : (i : Int) < (j : Int) := by omega
      obtain ⟨h, hh⟩ : ∃ h, (i + j) / 2 = h := ⟨_, rfl⟩
      have wh : ((i : Int) + (j : Int)) / 2 = (h : Int) := by omega
      have hih : i ≤ h := by omega
      have hhj : h < j := by omega
      clear hh
      cases hlv : ltOf cf d[m]! d[h]! with
      | true =>
        have eaP : ((m : Nat) : Int).toNat = m := by omega
        have paP : (0 : Int) ≤ ((m : Nat) : Int) := by omega
        have baP : ((m : Nat) : Int) < (sz : Int) := by omega
        have eaQ : ((h : Nat) : Int).toNat = h := by omega
        have paQ : (0 : Int) ≤ ((h : Nat) : Int) := by omega
        have baQ : ((h : Nat) : Int) < (sz : Int) := by omega
        obtain ⟨xp, hxp⟩ : ∃ x, x = d[m]! := ⟨_, rfl⟩
        obtain ⟨xq, hxq⟩ : ∃ x, x = d[h]! := ⟨_, rfl⟩
        have la := S1.out.ld R (by omega) P m (by omega)
        have lb := S1.out.ld R (by omega) P h (by omega)
        rw [← hxp] at la
        rw [← hxq] at lb
        have hc := S1.out.cmp HC.out (by omega) xp xq
        have hv : cf xp xq < 0 := by rw [hxp, hxq]; exact of_decide_eq_true hlv
        have hdv : decide (cf xp xq < 0) = true := decide_eq_true hv
        clear hxp hxq
        go_wp2_with fail
        go_quiet_grown (first | (go_at_fn g; refine Calls.grown_of (hc _ _)))
        have S2 : Aside (SWK enc k w0 blk off d (grow (wr.drewN nq) osq)) := S1.out.grown nq osq
        clear la lb hc S1
        generalize grow (wr.drewN nq) osq = w2 at S2 ⊢
        clear nq osq
        go_wp2
        go_roundg (h - i)
        case measure => omega
        case rel =>
          refine ⟨i, h, rfl, rfl, Nat.le_refl _, hmi, hih, by omega, S2, D1.out.1, fun c h1 h2 => ?_⟩
          cases hq : ltOf cf d[m]! d[c]! with
          | true => rfl
          | false => rw [MONO.out h c (by omega) h1 h2 hq] at hlv; cases hlv
      | false =>
        have eaP : ((m : Nat) : Int).toNat = m := by omega
        have paP : (0 : Int) ≤ ((m : Nat) : Int) := by omega
        have baP : ((m : Nat) : Int) < (sz : Int) := by omega
        have eaQ : ((h : Nat) : Int).toNat = h := by omega
        have paQ : (0 : Int) ≤ ((h : Nat) : Int) := by omega
        have baQ : ((h : Nat) : Int) < (sz : Int) := by omega
        obtain ⟨xp, hxp⟩ : ∃ x, x = d[m]! := ⟨_, rfl⟩
        obtain ⟨xq, hxq⟩ : ∃ x, x = d[h]! := ⟨_, rfl⟩
        have la := S1.out.ld R (by omega) P m (by omega)
        have lb := S1.out.ld R (by omega) P h (by omega)
        rw [← hxp] at la
        rw [← hxq] at lb
        have hc := S1.out.cmp HC.out (by omega) xp xq
        have hv : ¬ cf xp xq < 0 := by rw [hxp, hxq]; exact of_decide_eq_false hlv
        have hdv : decide (cf xp xq < 0) = false := decide_eq_false hv
        clear hxp hxq
        go_wp2_with fail
        go_quiet_grown (first | (go_at_fn g; refine Calls.grown_of (hc _ _)))
        have S2 : Aside (SWK enc k w0 blk off d (grow (wr.drewN nq) osq)) := S1.out.grown nq osq
        clear la lb hc S1
        generalize grow (wr.drewN nq) osq = w2 at S2 ⊢
        clear nq osq
        go_wp2
        go_roundg (j - (h + 1))
        case measure => omega
        case rel => exact ⟨h + 1, j, by go_num, rfl, Nat.le_refl _, by omega, by omega, hjb, S2, fun c h1 h2 => MONO.out c h h1 (by omega) (by omega) hlv, D1.out.2⟩
    · have hltz : ¬ (i : Int) < (j : Int) := by omega
      obtain rfl : i = j := by omega
      have E1 := Lib.hid (Plain.sym_last (lt := ltOf cf) (d := d) (i := i) (a := a) (m := m) (y := y) D0.out.1 D0.out.2.1 D0.out.2.2.1 hmi hjb (by have := D1.out.1; rw [D0.out.2.2.2] at this; exact this) (by have := D1.out.2; rw [D0.out.2.2.2] at this; exact this))
      clear D1 MONO
      go_wp2
      go_loopg [17] (m - i) (fun kx s17 wr2 => ∃ (t q : Nat) (dk : Array α), s17 = .int .i64 q ∧ a + t = q ∧ i ≤ q ∧ q ≤ m ∧ q - i ≤ kx ∧ dk.size = sz ∧ Aside (SWK enc k w0 blk off dk wr2) ∧ Aside (dk.toList = pre ++ (A.take t ++ (y :: (A.drop t ++ post)))))
      case atStart =>
        have e1 := D0.out.2.2.1
        exact ⟨A.length, m, d, rfl, e1, hjb, Nat.le_refl _, Nat.le_refl _, hsd, S1, by show d.toList = _; rw [D0.out.1, List.take_of_length_le (Nat.le_refl _), List.drop_eq_nil_of_le (Nat.le_refl _)]; rfl⟩
      case round =>
        clear S1
        obtain ⟨t, q, dk, rfl, htq, hiq, hqm, hkx2, hds, S3, D3⟩ := hrel
        by_cases hlt2 : i < q
        · have hltz2 : (i : Int) < (q : Int) := by omega
          obtain ⟨p, hp⟩ : ∃ p, q - 1 = p := ⟨_, rfl⟩
          have wp1 : IntKind.i64.wrap ((q : Int) - 1) = (p : Int) := by rw [IntKind.wrap_i64]; omega
          have eaP : ((q : Nat) : Int).toNat = q := by omega
          have paP : (0 : Int) ≤ ((q : Nat) : Int) := by omega
          have baP : ((q : Nat) : Int) < (sz : Int) := by omega
          have eaQ : ((p : Nat) : Int).toNat = p := by omega
          have paQ : (0 : Int) ≤ ((p : Nat) : Int) := by omega
          have baQ : ((p : Nat) : Int) < (sz : Int) := by omega
          have S2 : Aside (SWK enc k w0 blk off (swp dk (q) (p)) ((wr.drew.setCells blk (off + (q) * k) (enc dk[p]!)).setCells blk (off + (p) * k) (enc dk[q]!))) := S3.out.swapped R (q) (p) (by omega) (by omega)
          have la := S3.out.ld1 R (by omega) P (q) (by omega)
          have lb := S3.out.ld1 R (by omega) P (p) (by omega)
          have sa := S3.out.st1 R (by omega) P (q) (by omega) dk[p]!
          have sb := S3.out.st2 R (by omega) P (q) (p) (by omega) (by omega) dk[p]! dk[q]!
          have na : (enc dk[q]!).length = k := R.hk _
          have nb : (enc dk[p]!).length = k := R.hk _
          generalize enc dk[q]! = cI at S2 la sb na
          generalize enc dk[p]! = cJ at S2 lb sa sb nb
          clear S3
          go_wp2_with fail
          go_big_region_o
          clear la lb sa sb
          generalize (wr.drew.setCells blk (off + (q) * k) cJ).setCells blk (off + (p) * k) cI = w2 at S2 ⊢
          go_wp2
          go_roundg (p - i)
          case measure => omega
          case rel =>
            obtain ⟨t', rfl⟩ : ∃ t', t = t' + 1 := ⟨t - 1, by omega⟩
            obtain rfl : q = p + 1 := by omega
            exact ⟨t', p, swp dk (p + 1) p, rfl, by omega, by omega, by omega, Nat.le_refl _, by rw [size_swp]; exact hds, S2, Plain.move_left D3.out (by have := D0.out.2.2.1; omega) (by rw [D0.out.2.1]; omega)⟩
        · have hltz2 : ¬ (i : Int) < (q : Int) := by omega
          go_wp2
          refine bodyPost_ret (results_none rfl _ _ _) rfl ?_
          refine ⟨rfl, dk, hds, S3.out, ?_⟩
          rw [D3.out, E1.out, show i - a = t by omega]; simp

end Go.Proofs.Ytkhlgjkbkpbhiaa
