/-
  Layer 6: the library's merging of two rows in place, at elements of so many cells: where the first one is no longer. Nothing is assumed but what the sorting asks of the comparison.
-/
import Derived.Test.YtkhlgjkbkpbhiaaSta

namespace Go.Proofs.Ytkhlgjkbkpbhiaa
open Go.RowKit Go.Shelf Go.Lib Go.Sort
variable {P : Program} {k : Nat} {α : Type} [Inhabited α]

/-- what is asked of the merging of less than so many -/
def SymC (P : Program) (k : Nat) (enc : α → List Value) (cf : α → α → Int) (g : Nat) (cb : Array Value) (blk off cap sz : Nat) (w0 : World) (N : Nat) : Prop :=
  ∀ (a m b : Nat) (d : Array α) (w : World) (pre A B post : List α), b - a < N → d.size = sz → SWK enc k w0 blk off d w → d.toList = pre ++ (A ++ (B ++ post)) → pre.length = a → a + A.length = m → m + B.length = b → 0 < A.length → 0 < B.length → Plain.Srt (ltOf cf) A → Plain.Srt (ltOf cf) B →
    Calls P 35 #[.slice (some ⟨blk, off, none⟩) sz cap, .int .i64 a, .int .i64 m, .int .i64 b, .func (.func g) #[] cb] w fun e w' => e = .returned (.tuple #[]) ∧ ∃ d' : Array α, d'.size = sz ∧ SWK enc k w0 blk off d' w' ∧ d'.toList = pre ++ (Plain.mrg (ltOf cf) A B ++ post)

set_option maxHeartbeats 8000000 in
set_option maxRecDepth 1000000 in
theorem symLow_p (L : StP P k) (enc : α → List Value) (cf : α → α → Int) (hO : SWO (ltOf cf)) (g : Nat) (cb : Array Value) (eg : ∀ args w, (callFunc g args).run P w = .ok (.enter g args) w) (blk off cap a m b sz : Nat) (d0 d : Array α) (w0 w : World)
    (hcmp : CmpLays P g cb enc k cf blk off sz w0) (R : RowK enc k w0 blk off d0) (hs0 : d0.size = sz) (hsd : d.size = sz) (S : SWK enc k w0 blk off d w) (pre A B post : List α) (hd : d.toList = pre ++ (A ++ (B ++ post))) (ha : pre.length = a) (hX : a + A.length = m) (hY : m + B.length = b) (hX0 : 2 ≤ A.length) (hY0 : 2 ≤ B.length) (SA : Plain.Srt (ltOf cf) A) (SB : Plain.Srt (ltOf cf) B) (hsz : sz < 4611686018427387904)
    (mid : Nat) (hmid : (a + b) / 2 = mid) (hcase : m ≤ mid) (ih : SymC P k enc cf g cb blk off cap sz w0 (b - a)) :
    Calls P 35 #[.slice (some ⟨blk, off, none⟩) sz cap, .int .i64 a, .int .i64 m, .int .i64 b, .func (.func g) #[] cb] w fun e w' => e = .returned (.tuple #[]) ∧ ∃ d' : Array α, d'.size = sz ∧ SWK enc k w0 blk off d' w' ∧ d'.toList = pre ++ (Plain.mrg (ltOf cf) A B ++ post) := by
  have mixed := L.mixed; have t0 := L.t0; have a0 := L.a0; have z0 := L.z0; have v0 := L.v0; have t3 := L.t3; have a3 := L.a3; have z3 := L.z3; have v3 := L.v3; have t4 := L.t4; have a4 := L.a4; have z4 := L.z4; have v4 := L.v4; have t22 := L.t22; have a22 := L.a22; have z22 := L.z22; have v22 := L.v22; have t25 := L.t25; have a25 := L.a25; have z25 := L.z25; have v25 := L.v25; have t58 := L.t58; have a58 := L.a58; have z58 := L.z58; have v58 := L.v58
  have aE := L.aE; have zE := L.zE
  have FG := L.f35
  have e36 : ∀ args w, (callFunc 36 args).run P w = .ok (.enter 36 args) w := enters_of L.f36 (by kernel_rfl) rfl
  have e35 : ∀ args w, (callFunc 35 args).run P w = .ok (.enter 35 args) w := enters_of L.f35 (by kernel_rfl) rfl
  have HC : Aside (CmpLays P g cb enc k cf blk off d0.size w0) := by rw [hs0]; exact hcmp
  have HL : Aside (StP P k) := L
  have hbn : b ≤ sz := by
    have := congrArg List.length hd
    simp only [List.length_append, Array.length_toList] at this
    omega
  have hd2 : d.toList = (pre ++ A) ++ (B ++ post) := by rw [hd]; simp
  have sa := Plain.seg_sorted (lt := ltOf cf) hd SA
  have sb := Plain.seg_sorted (lt := ltOf cf) hd2 SB
  rw [ha, hX] at sa
  rw [List.length_append, ha, hX, hY] at sb
  obtain ⟨n, hn⟩ : ∃ n, mid + m = n := ⟨_, rfl⟩
  obtain ⟨p, hp⟩ : ∃ p, n - 1 = p := ⟨_, rfl⟩
  have hcz : ¬ (mid : Int) < (m : Int) := by omega
  obtain ⟨lo, hlo⟩ : ∃ lo, a ≤ lo ∧ lo ≤ a := ⟨a, Nat.le_refl _, Nat.le_refl _⟩
  obtain ⟨r0, hr0⟩ : ∃ r0, m ≤ r0 ∧ r0 ≤ m := ⟨m, Nat.le_refl _, Nat.le_refl _⟩
  have hlr : lo ≤ r0 := by omega
  have hal : a ≤ lo := by omega
  have hrm : r0 ≤ m := by omega
  have hpc : ∀ c, lo ≤ c → c < r0 → m ≤ p - c ∧ p - c < b ∧ c ≤ p := fun c h1 h2 => by omega
  have mono : ∀ c c', lo ≤ c → c ≤ c' → c' < r0 → ltOf cf d[p - c']! d[c']! = false → ltOf cf d[p - c]! d[c]! = false := fun c c' h1 h2 h3 h4 => by
    rcases Nat.lt_or_ge c c' with h | h
    · have q1 := hpc c h1 (by omega)
      have q2 := hpc c' (by omega) h3
      exact hO.ntrans _ _ _ (sb (p - c') (p - c) q2.1 (by omega) q1.2.1) (hO.ntrans _ _ _ h4 (sa c c' (by omega) h (by omega)))
    · rw [show c = c' by omega]; exact h4
  have MONO : Aside _ := mono
  have HPC : Aside _ := hpc
  have HI : Aside _ := ih
  have S0 : Aside (SWK enc k w0 blk off d w) := S
  have D0 : Aside (d.toList = pre ++ (A ++ (B ++ post)) ∧ pre.length = a ∧ a + A.length = m ∧ m + B.length = b ∧ Plain.Srt (ltOf cf) A ∧ Plain.Srt (ltOf cf) B) := ⟨hd, ha, hX, hY, SA, SB⟩
  have w1 : IntKind.i64.wrap ((m : Int) - (a : Int)) = (m : Int) - (a : Int) := by rw [IntKind.wrap_i64]; omega
  have w1n : ¬ (m : Int) - (a : Int) = 1 := by omega
  have w1b : ((m : Int) - (a : Int) == 1) = false := by simp [w1n]
  have w2 : IntKind.i64.wrap ((b : Int) - (m : Int)) = (b : Int) - (m : Int) := by rw [IntKind.wrap_i64]; omega
  have w2n : ¬ (b : Int) - (m : Int) = 1 := by omega
  have w2b : ((b : Int) - (m : Int) == 1) = false := by simp [w2n]
  have w3 : ((a : Int) + (b : Int)) / 2 = (mid : Int) := by omega
  have w4 : IntKind.i64.wrap ((mid : Int) + (m : Int)) = (n : Int) := by rw [IntKind.wrap_i64]; omega
  have w5 : IntKind.i64.wrap ((n : Int) - 1) = (p : Int) := by rw [IntKind.wrap_i64]; omega
  have ham : a + 2 ≤ m := by omega
  have hmb : m + 2 ≤ b := by omega
  have hma : a < mid := by omega
  have hmb2 : mid < b := by omega
  have hmd : 2 * mid ≤ a + b ∧ a + b ≤ 2 * mid + 1 := by omega
  clear S hd hd2 hX hY ha hX0 hY0 L hcmp mono sa sb hpc SA SB ih hmid
  go_enter FG, Try.ntmps35
  go_wp2
  go_loopg [20, 21] (r0 - lo) (fun kx s20 s21 wr => ∃ (i j : Nat), s20 = .int .i64 i ∧ s21 = .int .i64 j ∧ j - i ≤ kx ∧ lo ≤ i ∧ i ≤ j ∧ j ≤ r0 ∧ Aside (SWK enc k w0 blk off d wr) ∧ Aside ((∀ c, lo ≤ c → c < i → ltOf cf d[p - c]! d[c]! = false) ∧ (∀ c, j ≤ c → c < r0 → ltOf cf d[p - c]! d[c]! = true)))
  case atStart => exact ⟨a, m, rfl, rfl, by omega, by omega, by omega, by omega, S0, fun c h1 h2 => by omega, fun c h1 h2 => by omega⟩
  case round =>
    clear S0 w1 w1n w1b w2 w2n w2b w3 w4 w5
    obtain ⟨i, j, rfl, rfl, hkx, hmi, hij, hjb, S1, D1⟩ := hrel
    by_cases hlt : i < j
    · have hltz : (i : Int) < (j : Int) := by omega
      obtain ⟨c, hc0⟩ : ∃ c, (i + j) / 2 = c := ⟨_, rfl⟩
      have wh : ((i : Int) + (j : Int)) / 2 = (c : Int) := by omega
      have hih : i ≤ c := by omega
      have hhj : c < j := by omega
      obtain ⟨q, hq⟩ : ∃ q, p - c = q := ⟨_, rfl⟩
      have hq3 := HPC.out c (by omega) (by omega)
      rw [hq] at hq3
      have wq : IntKind.i64.wrap ((p : Int) - (c : Int)) = (q : Int) := by rw [IntKind.wrap_i64]; omega
      clear hc0
      have HQ : Aside (p - c = q) := hq
      clear hq
      cases hlv : ltOf cf d[q]! d[c]! with
      | true =>
        have eaP : ((q : Nat) : Int).toNat = q := by omega
        have paP : (0 : Int) ≤ ((q : Nat) : Int) := by omega
        have baP : ((q : Nat) : Int) < (sz : Int) := by omega
        have eaQ : ((c : Nat) : Int).toNat = c := by omega
        have paQ : (0 : Int) ≤ ((c : Nat) : Int) := by omega
        have baQ : ((c : Nat) : Int) < (sz : Int) := by omega
        obtain ⟨xp, hxp⟩ : ∃ x, x = d[q]! := ⟨_, rfl⟩
        obtain ⟨xq, hxq⟩ : ∃ x, x = d[c]! := ⟨_, rfl⟩
        have la := S1.out.ld R (by omega) P q (by omega)
        have lb := S1.out.ld R (by omega) P c (by omega)
        rw [← hxp] at la
        rw [← hxq] at lb
        have hc := S1.out.cmp HC.out (by omega) xp xq
        have hv : cf xp xq < 0 := by rw [hxp, hxq]; exact of_decide_eq_true hlv
        have hdv : decide (cf xp xq < 0) = true := decide_eq_true hv
        clear hxp hxq
        go_wp2_with fail
        go_quiet_grown (first | (go_at_fn g; refine Calls.grown_of (hc _ _)))
        have S2 : Aside (SWK enc k w0 blk off d (grow (wr.drewN nq) osq)) := S1.out.grown nq osq
        clear la lb hc S1
        generalize grow (wr.drewN nq) osq = w2 at S2 ⊢
        clear nq osq
        go_wp2
        go_roundg (c - i)
        case measure => omega
        case rel =>
          refine ⟨i, c, rfl, rfl, Nat.le_refl _, hmi, hih, by omega, S2, D1.out.1, fun c' h1 h2 => ?_⟩
          cases hq : ltOf cf d[p - c']! d[c']! with
          | true => rfl
          | false => have := MONO.out c c' (by omega) h1 h2 hq; rw [HQ.out, hlv] at this; cases this
      | false =>
        have eaP : ((q : Nat) : Int).toNat = q := by omega
        have paP : (0 : Int) ≤ ((q : Nat) : Int) := by omega
        have baP : ((q : Nat) : Int) < (sz : Int) := by omega
        have eaQ : ((c : Nat) : Int).toNat = c := by omega
        have paQ : (0 : Int) ≤ ((c : Nat) : Int) := by omega
        have baQ : ((c : Nat) : Int) < (sz : Int) := by omega
        obtain ⟨xp, hxp⟩ : ∃ x, x = d[q]! := ⟨_, rfl⟩
        obtain ⟨xq, hxq⟩ : ∃ x, x = d[c]! := ⟨_, rfl⟩
        have la := S1.out.ld R (by omega) P q (by omega)
        have lb := S1.out.ld R (by omega) P c (by omega)
        rw [← hxp] at la
        rw [← hxq] at lb
        have hc := S1.out.cmp HC.out (by omega) xp xq
        have hv : ¬ cf xp xq < 0 := by rw [hxp, hxq]; exact of_decide_eq_false hlv
        have hdv : decide (cf xp xq < 0) = false := decide_eq_false hv
        clear hxp hxq
        go_wp2_with fail
        go_quiet_grown (first | (go_at_fn g; refine Calls.grown_of (hc _ _)))
        have S2 : Aside (SWK enc k w0 blk off d (grow (wr.drewN nq) osq)) := S1.out.grown nq osq
        clear la lb hc S1
        generalize grow (wr.drewN nq) osq = w2 at S2 ⊢
        clear nq osq
        go_wp2
        go_roundg (j - (c + 1))
        case measure => omega
        case rel => exact ⟨c + 1, j, by go_num, rfl, Nat.le_refl _, by omega, by omega, hjb, S2, fun c' h1 h2 => MONO.out c' c h1 (by omega) (by omega) (by rw [HQ.out]; exact hlv), D1.out.2⟩
    · have hltz : ¬ (i : Int) < (j : Int) := by omega
      obtain rfl : i = j := by omega
      obtain ⟨e, he⟩ : ∃ e, n - i = e := ⟨_, rfl⟩
      have we : IntKind.i64.wrap ((n : Int) - (i : Int)) = (e : Int) := by rw [IntKind.wrap_i64]; omega
      have him : i ≤ m := by omega
      have hme : m ≤ e := by omega
      have heb : e ≤ b := by omega
      have hai : a ≤ i := by omega
      have hie : i + e = mid + m := by omega
      obtain ⟨h1, h2, h3, h4, h5, h6⟩ := D0.out
      have E1 := Plain.sym_split hO h1 h2 h3 h4 h5 h6 (s := i) (e := e) hai him hme heb (fun g1 g2 => by
        have := D1.out.2 i (Nat.le_refl _) (by omega)
        rw [show p - i = e - 1 by omega] at this; exact this) (fun g1 g2 => by
        have := D1.out.1 (i - 1) (by omega) (by omega)
        rw [show p - (i - 1) = e by omega] at this; exact this)
      have sA1 := Plain.srt_take h5 (i - a)
      have sA2 := Plain.srt_drop h5 (i - a)
      have sB1 := Plain.srt_take h6 (e - m)
      have sB2 := Plain.srt_drop h6 (e - m)
      have hd0 : d.toList = pre ++ (A.take (i - a) ++ (A.drop (i - a) ++ (B.take (e - m) ++ (B.drop (e - m) ++ post)))) := by
        rw [h1, ← List.append_assoc (A.take (i - a)), List.take_append_drop, ← List.append_assoc (B.take (e - m)), List.take_append_drop]
      have lA1 : (A.take (i - a)).length = i - a := by simp; omega
      have lA2 : (A.drop (i - a)).length = m - i := by simp; omega
      have lB1 : (B.take (e - m)).length = e - m := by simp; omega
      have lB2 : (B.drop (e - m)).length = b - e := by simp; omega
      clear D1 MONO HPC h1 h3 h4 h5 h6 D0
      generalize A.take (i - a) = A1 at *
      generalize A.drop (i - a) = A2 at *
      generalize B.take (e - m) = B1 at *
      generalize B.drop (e - m) = B2 at *
      have lM : (pre ++ Plain.mrg (ltOf cf) A1 B1).length = mid := by rw [List.length_append, (Plain.mrg_perm A1 B1).length_eq, List.length_append, lA1, lB1, h2]; omega
      have HR := Lib.hid (fun (g1 : i < m) (g2 : m < e) => rotate_p HL.out enc g cb blk off cap i m e sz d0 d w0 wr R hs0 hsd S1.out (pre ++ A1) A2 B1 (B2 ++ post) (by rw [hd0]; simp only [List.append_assoc]) (by rw [List.length_append, h2, lA1]; omega) (by omega) (by omega) (by omega) (by omega) hsz)
      have HS1 := Lib.hid (fun (d1 : Array α) (W : World) (q1 : d1.size = sz) (q2 : SWK enc k w0 blk off d1 W) (q3 : d1.toList = pre ++ (A1 ++ (B1 ++ (A2 ++ (B2 ++ post))))) (g1 : a < i) (g2 : i < mid) => HI.out a i mid d1 W pre A1 B1 (A2 ++ (B2 ++ post)) (by omega) q1 q2 q3 h2 (by omega) (by omega) (by omega) (by omega) sA1 sB1)
      have HS2 := Lib.hid (fun (d1 : Array α) (W : World) (q1 : d1.size = sz) (q2 : SWK enc k w0 blk off d1 W) (q3 : d1.toList = pre ++ (Plain.mrg (ltOf cf) A1 B1 ++ (A2 ++ (B2 ++ post)))) (g1 : mid < e) (g2 : e < b) => HI.out mid e b d1 W (pre ++ Plain.mrg (ltOf cf) A1 B1) A2 B2 post (by omega) q1 q2 (by rw [q3]; simp only [List.append_assoc]) lM (by omega) (by omega) (by omega) (by omega) sA2 sB2)
      have F0 : ¬ (i < m ∧ m < e) → ∀ T : List α, A2 ++ (B1 ++ T) = B1 ++ (A2 ++ T) := fun hh T => by
        rcases Nat.lt_or_ge i m with g1 | g1
        · have : B1 = [] := List.eq_nil_of_length_eq_zero (by omega)
          rw [this]; rfl
        · have : A2 = [] := List.eq_nil_of_length_eq_zero (by omega)
          rw [this]; rfl
      have F1 : ¬ (a < i ∧ i < mid) → Plain.mrg (ltOf cf) A1 B1 = A1 ++ B1 := fun hh => by
        rcases Nat.lt_or_ge a i with g1 | g1
        · have : B1 = [] := List.eq_nil_of_length_eq_zero (by omega)
          rw [this, Plain.mrg_nil, List.append_nil]
        · have : A1 = [] := List.eq_nil_of_length_eq_zero (by omega)
          rw [this, Plain.mrg_nil_left, List.nil_append]
      have F2 : ¬ (mid < e ∧ e < b) → Plain.mrg (ltOf cf) A2 B2 = A2 ++ B2 := fun hh => by
        rcases Nat.lt_or_ge mid e with g1 | g1
        · have : B2 = [] := List.eq_nil_of_length_eq_zero (by omega)
          rw [this, Plain.mrg_nil, List.append_nil]
        · have : A2 = [] := List.eq_nil_of_length_eq_zero (by omega)
          rw [this, Plain.mrg_nil_left, List.nil_append]
      have HF := Lib.hid (show (¬ (i < m ∧ m < e) → ∀ T : List α, A2 ++ (B1 ++ T) = B1 ++ (A2 ++ T)) ∧ (¬ (a < i ∧ i < mid) → Plain.mrg (ltOf cf) A1 B1 = A1 ++ B1) ∧ (¬ (mid < e ∧ e < b) → Plain.mrg (ltOf cf) A2 B2 = A2 ++ B2) from ⟨F0, F1, F2⟩)
      have HE := Lib.hid E1
      have HD := Lib.hid hd0
      clear E1 hd0 F0 F1 F2 lM sA1 sA2 sB1 sB2 lA1 lA2 lB1 lB2 hltz HI
      by_cases q1 : m ≤ i
      · by_cases q2 : m < mid
        · have n1 : ¬ (i : Int) < (m : Int) := by omega
          have n3 : (a : Int) < (i : Int) := by omega
          have n4 : (i : Int) < (mid : Int) := by omega
          have n5 : ¬ (mid : Int) < (e : Int) := by omega
          have HA := Lib.hid (show d.size = sz ∧ SWK enc k w0 blk off d wr ∧ d.toList = pre ++ (A1 ++ (B1 ++ (A2 ++ (B2 ++ post)))) from ⟨hsd, S1.out, by rw [HD.out, HF.out.1 (by omega)]⟩)
          clear HR S1
          go_wp2_with fail
          refine (HS1.out _ _ HA.out.1 HA.out.2.1 HA.out.2.2 (by omega) (by omega)).mono ?_
          rintro e1 wb ⟨rfl, db, qa, qb, qc⟩
          have HB := Lib.hid (show db.size = sz ∧ SWK enc k w0 blk off db wb ∧ db.toList = pre ++ (Plain.mrg (ltOf cf) A1 B1 ++ (A2 ++ (B2 ++ post))) from ⟨qa, qb, qc⟩)
          clear qa qb qc
          have HZ := Lib.hid (show db.size = sz ∧ SWK enc k w0 blk off db wb ∧ db.toList = pre ++ (Plain.mrg (ltOf cf) A1 B1 ++ (Plain.mrg (ltOf cf) A2 B2 ++ post)) from ⟨HB.out.1, HB.out.2.1, by rw [HB.out.2.2, HF.out.2.2 (by omega), List.append_assoc]⟩)
          go_wp2
          go_end0
          exact ⟨rfl, db, HZ.out.1, HZ.out.2.1, by rw [HZ.out.2.2, HE.out, List.append_assoc]⟩
        · have n1 : ¬ (i : Int) < (m : Int) := by omega
          have n3 : (a : Int) < (i : Int) := by omega
          have n4 : ¬ (i : Int) < (mid : Int) := by omega
          have n5 : ¬ (mid : Int) < (e : Int) := by omega
          have HA := Lib.hid (show d.size = sz ∧ SWK enc k w0 blk off d wr ∧ d.toList = pre ++ (A1 ++ (B1 ++ (A2 ++ (B2 ++ post)))) from ⟨hsd, S1.out, by rw [HD.out, HF.out.1 (by omega)]⟩)
          clear HR S1
          have HB := Lib.hid (show d.size = sz ∧ SWK enc k w0 blk off d wr ∧ d.toList = pre ++ (Plain.mrg (ltOf cf) A1 B1 ++ (A2 ++ (B2 ++ post))) from ⟨HA.out.1, HA.out.2.1, by rw [HA.out.2.2, HF.out.2.1 (by omega), List.append_assoc]⟩)
          have HZ := Lib.hid (show d.size = sz ∧ SWK enc k w0 blk off d wr ∧ d.toList = pre ++ (Plain.mrg (ltOf cf) A1 B1 ++ (Plain.mrg (ltOf cf) A2 B2 ++ post)) from ⟨HB.out.1, HB.out.2.1, by rw [HB.out.2.2, HF.out.2.2 (by omega), List.append_assoc]⟩)
          go_wp2
          go_end0
          exact ⟨rfl, d, HZ.out.1, HZ.out.2.1, by rw [HZ.out.2.2, HE.out, List.append_assoc]⟩
      · by_cases q2 : e ≤ m
        · exfalso; omega
        · by_cases q3 : i ≤ a
          · by_cases q4 : b ≤ e
            · have n1 : (i : Int) < (m : Int) := by omega
              have n2 : (m : Int) < (e : Int) := by omega
              have n3 : ¬ (a : Int) < (i : Int) := by omega
              have n5 : (mid : Int) < (e : Int) := by omega
              have n6 : ¬ (e : Int) < (b : Int) := by omega
              have HR1 := Lib.hid (HR.out (by omega) (by omega))
              clear HR S1
              go_wp2_with fail
              refine HR1.out.mono ?_
              rintro e0 wa ⟨rfl, da, ra, rb, rc⟩
              have HA := Lib.hid (show da.size = sz ∧ SWK enc k w0 blk off da wa ∧ da.toList = pre ++ (A1 ++ (B1 ++ (A2 ++ (B2 ++ post)))) from ⟨ra, rb, by rw [rc]; simp only [List.append_assoc]⟩)
              clear ra rb rc HR1
              have HB := Lib.hid (show da.size = sz ∧ SWK enc k w0 blk off da wa ∧ da.toList = pre ++ (Plain.mrg (ltOf cf) A1 B1 ++ (A2 ++ (B2 ++ post))) from ⟨HA.out.1, HA.out.2.1, by rw [HA.out.2.2, HF.out.2.1 (by omega), List.append_assoc]⟩)
              have HZ := Lib.hid (show da.size = sz ∧ SWK enc k w0 blk off da wa ∧ da.toList = pre ++ (Plain.mrg (ltOf cf) A1 B1 ++ (Plain.mrg (ltOf cf) A2 B2 ++ post)) from ⟨HB.out.1, HB.out.2.1, by rw [HB.out.2.2, HF.out.2.2 (by omega), List.append_assoc]⟩)
              go_wp2
              go_end0
              exact ⟨rfl, da, HZ.out.1, HZ.out.2.1, by rw [HZ.out.2.2, HE.out, List.append_assoc]⟩
            · have n1 : (i : Int) < (m : Int) := by omega
              have n2 : (m : Int) < (e : Int) := by omega
              have n3 : ¬ (a : Int) < (i : Int) := by omega
              have n5 : (mid : Int) < (e : Int) := by omega
              have n6 : (e : Int) < (b : Int) := by omega
              have HR1 := Lib.hid (HR.out (by omega) (by omega))
              clear HR S1
              go_wp2_with fail
              refine HR1.out.mono ?_
              rintro e0 wa ⟨rfl, da, ra, rb, rc⟩
              have HA := Lib.hid (show da.size = sz ∧ SWK enc k w0 blk off da wa ∧ da.toList = pre ++ (A1 ++ (B1 ++ (A2 ++ (B2 ++ post)))) from ⟨ra, rb, by rw [rc]; simp only [List.append_assoc]⟩)
              clear ra rb rc HR1
              have HB := Lib.hid (show da.size = sz ∧ SWK enc k w0 blk off da wa ∧ da.toList = pre ++ (Plain.mrg (ltOf cf) A1 B1 ++ (A2 ++ (B2 ++ post))) from ⟨HA.out.1, HA.out.2.1, by rw [HA.out.2.2, HF.out.2.1 (by omega), List.append_assoc]⟩)
              go_wp2_with fail
              refine (HS2.out _ _ HB.out.1 HB.out.2.1 HB.out.2.2 (by omega) (by omega)).mono ?_
              rintro e2 wd ⟨rfl, dd, qa, qb, qc⟩
              have HZ := Lib.hid (show dd.size = sz ∧ SWK enc k w0 blk off dd wd ∧ dd.toList = pre ++ (Plain.mrg (ltOf cf) A1 B1 ++ (Plain.mrg (ltOf cf) A2 B2 ++ post)) from ⟨qa, qb, by rw [qc]; simp only [List.append_assoc]⟩)
              clear qa qb qc
              go_wp2
              go_end0
              exact ⟨rfl, dd, HZ.out.1, HZ.out.2.1, by rw [HZ.out.2.2, HE.out, List.append_assoc]⟩
          · by_cases q4 : b ≤ e
            · exfalso; omega
            · have n1 : (i : Int) < (m : Int) := by omega
              have n2 : (m : Int) < (e : Int) := by omega
              have n3 : (a : Int) < (i : Int) := by omega
              have n4 : (i : Int) < (mid : Int) := by omega
              have n5 : (mid : Int) < (e : Int) := by omega
              have n6 : (e : Int) < (b : Int) := by omega
              have HR1 := Lib.hid (HR.out (by omega) (by omega))
              clear HR S1
              go_wp2_with fail
              refine HR1.out.mono ?_
              rintro e0 wa ⟨rfl, da, ra, rb, rc⟩
              have HA := Lib.hid (show da.size = sz ∧ SWK enc k w0 blk off da wa ∧ da.toList = pre ++ (A1 ++ (B1 ++ (A2 ++ (B2 ++ post)))) from ⟨ra, rb, by rw [rc]; simp only [List.append_assoc]⟩)
              clear ra rb rc HR1
              go_wp2_with fail
              refine (HS1.out _ _ HA.out.1 HA.out.2.1 HA.out.2.2 (by omega) (by omega)).mono ?_
              rintro e1 wb ⟨rfl, db, qa, qb, qc⟩
              have HB := Lib.hid (show db.size = sz ∧ SWK enc k w0 blk off db wb ∧ db.toList = pre ++ (Plain.mrg (ltOf cf) A1 B1 ++ (A2 ++ (B2 ++ post))) from ⟨qa, qb, qc⟩)
              clear qa qb qc
              go_wp2_with fail
              refine (HS2.out _ _ HB.out.1 HB.out.2.1 HB.out.2.2 (by omega) (by omega)).mono ?_
              rintro e2 wd ⟨rfl, dd, qa, qb, qc⟩
              have HZ := Lib.hid (show dd.size = sz ∧ SWK enc k w0 blk off dd wd ∧ dd.toList = pre ++ (Plain.mrg (ltOf cf) A1 B1 ++ (Plain.mrg (ltOf cf) A2 B2 ++ post)) from ⟨qa, qb, by rw [qc]; simp only [List.append_assoc]⟩)
              clear qa qb qc
              go_wp2
              go_end0
              exact ⟨rfl, dd, HZ.out.1, HZ.out.2.1, by rw [HZ.out.2.2, HE.out, List.append_assoc]⟩

end Go.Proofs.Ytkhlgjkbkpbhiaa
