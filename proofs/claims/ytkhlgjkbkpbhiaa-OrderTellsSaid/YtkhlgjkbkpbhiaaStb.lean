/-
  Layer 6: the library's sorting that keeps alike ones in their order, whole, at elements of so many cells: what it leaves is the row sorted, alike ones in their order. Nothing is assumed but what the sorting asks of the comparison, and that there are at most a million elements.
-/
import Derived.Test.YtkhlgjkbkpbhiaaSym
import Derived.Test.YtkhlgjkbkpbhiaaSymB

namespace Go.Proofs.Ytkhlgjkbkpbhiaa
open Go.RowKit Go.Shelf Go.Lib Go.Sort
variable {P : Program} {k : Nat} {α : Type} [Inhabited α]

theorem symMerge_p (L : StP P k) (enc : α → List Value) (cf : α → α → Int) (hO : SWO (ltOf cf)) (g : Nat) (cb : Array Value) (eg : ∀ args w, (callFunc g args).run P w = .ok (.enter g args) w) (blk off cap sz : Nat) (d0 : Array α) (w0 : World)
    (hcmp : CmpLays P g cb enc k cf blk off sz w0) (R : RowK enc k w0 blk off d0) (hs0 : d0.size = sz) (hsz : sz < 4611686018427387904) : ∀ N, SymC P k enc cf g cb blk off cap sz w0 N := by
  intro N
  induction N with
  | zero => intro a m b d w pre A B post h; exact absurd h (Nat.not_lt_zero _)
  | succ N ih =>
    intro a m b d w pre A B post hN hsd S hd ha hX hY hX0 hY0 SA SB
    have ih' : SymC P k enc cf g cb blk off cap sz w0 (b - a) := fun a' m' b' d' w' pre' A' B' post' h => ih a' m' b' d' w' pre' A' B' post' (by omega)
    rcases A with _ | ⟨x, A⟩
    · simp at hX0
    rcases A with _ | ⟨x2, A⟩
    · exact symOne_p L enc cf hO g cb eg blk off cap a m b sz d0 d w0 w hcmp R hs0 hsd S pre x B post hd ha hX hY hY0 SB hsz
    rcases B with _ | ⟨y, B⟩
    · simp at hY0
    rcases B with _ | ⟨y2, B⟩
    · exact symLast_p L enc cf hO g cb eg blk off cap a m b sz d0 d w0 w hcmp R hs0 hsd S pre _ y post hd ha hX hY (by simp) SA hsz
    rcases Nat.lt_or_ge ((a + b) / 2) m with h | h
    · exact symHigh_p L enc cf hO g cb eg blk off cap a m b sz d0 d w0 w hcmp R hs0 hsd S pre _ _ post hd ha hX hY (by simp) (by simp) SA SB hsz _ rfl h ih'
    · exact symLow_p L enc cf hO g cb eg blk off cap a m b sz d0 d w0 w hcmp R hs0 hsd S pre _ _ post hd ha hX hY (by simp) (by simp) SA SB hsz _ rfl h ih'

set_option maxHeartbeats 4000000 in
set_option maxRecDepth 1000000 in
theorem stable_p (L : StP P k) (enc : α → List Value) (cf : α → α → Int) (hO : SWO (ltOf cf)) (g : Nat) (cb : Array Value) (eg : ∀ args w, (callFunc g args).run P w = .ok (.enter g args) w) (blk off cap sz : Nat) (d0 d : Array α) (w0 w : World)
    (hcmp : CmpLays P g cb enc k cf blk off sz w0) (R : RowK enc k w0 blk off d0) (hs0 : d0.size = sz) (hsd : d.size = sz) (S : SWK enc k w0 blk off d w) (hsz : sz ≤ 1000000)
    (hins : ∀ (a b : Nat) (d : Array α) (w : World), a ≤ b → b ≤ sz → d.size = sz → SWK enc k w0 blk off d w → Calls P 34 #[.slice (some ⟨blk, off, none⟩) sz cap, .int .i64 a, .int .i64 b, .func (.func g) #[] cb] w fun e w' => e = .returned (.tuple #[]) ∧ SWK enc k w0 blk off (Sort.insertionSort (ltOf cf) d a b) w') :
    Calls P 31 #[.slice (some ⟨blk, off, none⟩) sz cap, .int .i64 sz, .func (.func g) #[] cb] w fun e w' => e = .returned (.tuple #[]) ∧ ∃ d' : Array α, d'.size = sz ∧ SWK enc k w0 blk off d' w' ∧ d'.toList = Plain.srt (ltOf cf) d.toList := by
  have mixed := L.mixed; have t0 := L.t0; have a0 := L.a0; have z0 := L.z0; have v0 := L.v0; have t3 := L.t3; have a3 := L.a3; have z3 := L.z3; have v3 := L.v3; have t4 := L.t4; have a4 := L.a4; have z4 := L.z4; have v4 := L.v4; have t22 := L.t22; have a22 := L.a22; have z22 := L.z22; have v22 := L.v22; have t25 := L.t25; have a25 := L.a25; have z25 := L.z25; have v25 := L.v25
  have FG := L.f31
  have e34 : ∀ args w, (callFunc 34 args).run P w = .ok (.enter 34 args) w := enters_of L.f34 (by kernel_rfl) rfl
  have e35 : ∀ args w, (callFunc 35 args).run P w = .ok (.enter 35 args) w := enters_of L.f35 (by kernel_rfl) rfl
  have HI : Aside (∀ (a b : Nat) (d : Array α) (w : World) (pre X post : List α), d.size = sz → SWK enc k w0 blk off d w → d.toList = pre ++ (X ++ post) → pre.length = a → a + X.length = b → Calls P 34 #[.slice (some ⟨blk, off, none⟩) sz cap, .int .i64 a, .int .i64 b, .func (.func g) #[] cb] w fun e w' => e = .returned (.tuple #[]) ∧ ∃ d' : Array α, d'.size = sz ∧ SWK enc k w0 blk off d' w' ∧ d'.toList = pre ++ (Plain.srt (ltOf cf) X ++ post)) := fun a b d w pre X post h1 h2 h3 h4 h5 => by
    have hl := congrArg List.length h3
    simp only [List.length_append, Array.length_toList] at hl
    refine (hins a b d w (by omega) (by omega) h1 h2).mono ?_
    rintro e w' ⟨rfl, hS⟩
    have hq := Plain.insertionSort_list hO pre X post d h3
    rw [h4, h5] at hq
    refine ⟨rfl, _, ?_, hS, hq⟩
    have := congrArg List.length hq
    simp only [List.length_append, Array.length_toList, Plain.srt_length] at this
    omega
  have HM : Aside _ := symMerge_p L enc cf hO g cb eg blk off cap sz d0 w0 hcmp R hs0 (by omega) (sz + 1)
  obtain ⟨Z, hZ⟩ : ∃ Z, d.toList = Z := ⟨_, rfl⟩
  have hZl : Z.length = sz := by rw [← hZ, Array.length_toList, hsd]
  rw [hZ]
  have HZ : Aside (d.toList = Z ∧ Z.length = sz) := ⟨hZ, hZl⟩
  have S0 : Aside (SWK enc k w0 blk off d w) := S
  have H2 : Aside (StP P k) := L
  clear hcmp hins S hZ hZl L
  go_enter FG, Try.ntmps31
  go_wp2
  go_loopg [7, 8] sz (fun kx s7 s8 wr => ∃ (a b : Nat) (dk : Array α) (done : List α), s7 = .int .i64 a ∧ s8 = .int .i64 b ∧ a + 20 = b ∧ a ≤ sz ∧ sz - a ≤ kx ∧ dk.size = sz ∧ Aside (SWK enc k w0 blk off dk wr) ∧ Aside (dk.toList = done ++ Z.drop a ∧ done.length = a ∧ done ++ Plain.runs (ltOf cf) 20 (Z.drop a) = Plain.runs (ltOf cf) 20 Z))
  case atStart => exact ⟨0, 20, d, [], rfl, rfl, rfl, Nat.zero_le _, by omega, hsd, S0, by rw [HZ.out.1]; rfl, rfl, rfl⟩
  case round =>
    clear S0
    obtain ⟨a, b, dk, done, rfl, rfl, hab, has, hkx, hds, S1, D1⟩ := hrel
    by_cases hlt : b ≤ sz
    · have hltz : (b : Int) ≤ (sz : Int) := by omega
      have HS := Lib.hid (HI.out a b dk wr done ((Z.drop a).take 20) (Z.drop b) hds S1.out (by
        rw [D1.out.1]
        congr 1
        conv => lhs; rw [← List.take_append_drop 20 (Z.drop a), List.drop_drop, hab]) D1.out.2.1 (by have := HZ.out.2; simp; omega))
      have wb : IntKind.i64.wrap ((b : Int) + 20) = ((b + 20 : Nat) : Int) := by rw [IntKind.wrap_i64]; omega
      clear S1
      go_wp2_with (go_at_fn 34; refine HS.out.mono ?_; rintro e w3 ⟨rfl, d', hd1, hd2, hd3⟩)
      have S2 : Aside (SWK enc k w0 blk off d' w3) := hd2
      have D2 := Lib.hid hd3
      clear hd2 hd3
      go_roundg (sz - b)
      case measure => omega
      case rel =>
        obtain ⟨h1, h2, h3⟩ := D1.out
        have hz := HZ.out.2
        refine ⟨b, b + 20, d', done ++ Plain.srt (ltOf cf) ((Z.drop a).take 20), rfl, by first | rfl | go_num | simp, rfl, by omega, Nat.le_refl _, hd1, S2, ?_, ?_, ?_⟩
        · rw [D2.out, List.append_assoc]
        · rw [List.length_append, Plain.srt_length, h2, List.length_take, List.length_drop]; omega
        · rw [← h3, Plain.runs_cut (L := Z.drop a) (by omega) (by simp; omega), List.drop_drop, hab, List.append_assoc]
    · have hltz : ¬ (b : Int) ≤ (sz : Int) := by omega
      have HS := Lib.hid (HI.out a sz dk wr done (Z.drop a) [] hds S1.out (by rw [D1.out.1, List.append_nil]) D1.out.2.1 (by have := HZ.out.2; simp; omega))
      clear S1
      go_wp2_with (go_at_fn 34; refine HS.out.mono ?_; rintro e w3 ⟨rfl, d', hd1, hd2, hd3⟩)
      have S2 : Aside (SWK enc k w0 blk off d' w3) := hd2
      have D2 : Aside (d'.toList = Plain.runs (ltOf cf) 20 Z) := by
        show _ = _
        rw [hd3, ← D1.out.2.2, Plain.runs_few (L := Z.drop a) (by have := HZ.out.2; simp; omega), List.append_nil]
      clear hd2 hd3 HS D1 HI
      go_loopg [6] sz (fun kx s6 wr => ∃ (s : Nat) (dk : Array α), s6 = .int .i64 s ∧ 20 ≤ s ∧ s ≤ 3000000 ∧ sz - s ≤ kx ∧ dk.size = sz ∧ Aside (SWK enc k w0 blk off dk wr) ∧ Aside (dk.toList = Plain.runs (ltOf cf) s Z))
      case atStart => exact ⟨20, d', rfl, Nat.le_refl _, by omega, by omega, hd1, S2, D2⟩
      case round =>
        clear S2 D2
        obtain ⟨s, dj, rfl, hs1, hs2, hkx2, hdj, S3, D3⟩ := hrel
        by_cases hlt2 : s < sz
        · have hltz2 : (s : Int) < (sz : Int) := by omega
          obtain ⟨s2, hs3⟩ : ∃ s2, s + s = s2 := ⟨_, rfl⟩
          have ws : IntKind.i64.wrap (2 * (s : Int)) = (s2 : Int) := by rw [IntKind.wrap_i64]; omega
          have ws2 : IntKind.i64.wrap ((s : Int) * 2) = (s2 : Int) := by rw [IntKind.wrap_i64]; omega
          go_wp2
          go_loopg [7, 8] sz (fun kx s7 s8 wr => ∃ (a b : Nat) (dk : Array α) (done : List α), s7 = .int .i64 a ∧ s8 = .int .i64 b ∧ a + s2 = b ∧ a ≤ sz ∧ sz - a ≤ kx ∧ dk.size = sz ∧ Aside (SWK enc k w0 blk off dk wr) ∧ Aside (dk.toList = done ++ Plain.runs (ltOf cf) s (Z.drop a) ∧ done.length = a ∧ done ++ Plain.runs (ltOf cf) s2 (Z.drop a) = Plain.runs (ltOf cf) s2 Z))
          case atStart => exact ⟨0, s2, dj, [], rfl, rfl, by omega, Nat.zero_le _, by omega, hdj, S3, by rw [D3.out]; rfl, rfl, rfl⟩
          case round =>
            clear S3 D3
            obtain ⟨a', b', dk', done', rfl, rfl, hab', has', hkx', hds', S4, D4⟩ := hrel
            obtain ⟨m, hm⟩ : ∃ m, a' + s = m := ⟨_, rfl⟩
            have wm : IntKind.i64.wrap ((a' : Int) + (s : Int)) = (m : Int) := by rw [IntKind.wrap_i64]; omega
            by_cases hlt3 : b' ≤ sz
            · have hltz3 : (b' : Int) ≤ (sz : Int) := by omega
              have hzl : s + s ≤ (Z.drop a').length := by have := HZ.out.2; simp; omega
              have HS := Lib.hid (HM.out a' m b' dk' wr done' (Plain.srt (ltOf cf) ((Z.drop a').take s)) (Plain.srt (ltOf cf) (((Z.drop a').drop s).take s)) (Plain.runs (ltOf cf) s ((Z.drop a').drop (s + s))) (by omega) hds' S4.out (by rw [D4.out.1, Plain.runs_two (by omega) hzl]) D4.out.2.1 (by rw [Plain.srt_length, List.length_take]; omega) (by rw [Plain.srt_length, List.length_take, List.length_drop]; omega) (by rw [Plain.srt_length, List.length_take]; omega) (by rw [Plain.srt_length, List.length_take, List.length_drop]; omega) (Plain.srt_sorted hO _) (Plain.srt_sorted hO _))
              have wb : IntKind.i64.wrap ((b' : Int) + (s2 : Int)) = ((b' + s2 : Nat) : Int) := by rw [IntKind.wrap_i64]; omega
              clear S4
              go_wp2_with (go_at_fn 35; refine HS.out.mono ?_; rintro e w4 ⟨rfl, d5, hd5, hd6, hd7⟩)
              have S5 : Aside (SWK enc k w0 blk off d5 w4) := hd6
              have D5 := Lib.hid hd7
              clear hd6 hd7
              go_roundg (sz - b')
              case measure => omega
              case rel =>
                obtain ⟨h1, h2, h3⟩ := D4.out
                refine ⟨b', b' + s2, d5, done' ++ Plain.mrg (ltOf cf) (Plain.srt (ltOf cf) ((Z.drop a').take s)) (Plain.srt (ltOf cf) (((Z.drop a').drop s).take s)), rfl, by first | rfl | go_num | simp, rfl, by omega, Nat.le_refl _, hd5, S5, ?_, ?_, ?_⟩
                · rw [D5.out, List.append_assoc, List.drop_drop (i := s + s), hs3, hab']
                · rw [List.length_append, (Plain.mrg_perm _ _).length_eq, List.length_append, Plain.srt_length, Plain.srt_length, List.length_take, List.length_take, List.length_drop (i := s), h2]; omega
                · rw [← h3, ← hs3, Plain.runs_more hO (by omega) hzl, List.drop_drop (i := s + s), hs3, hab', List.append_assoc]
            · have hltz3 : ¬ (b' : Int) ≤ (sz : Int) := by omega
              by_cases hlt4 : m < sz
              · have hltz4 : (m : Int) < (sz : Int) := by omega
                have hz0 := HZ.out.2
                have hr := Plain.runs_end hO (s := s) (L := Z.drop a') (by omega) (by simp; omega) (by simp; omega)
                have HS := Lib.hid (HM.out a' m sz dk' wr done' (Plain.srt (ltOf cf) ((Z.drop a').take s)) (Plain.srt (ltOf cf) ((Z.drop a').drop s)) [] (by omega) hds' S4.out (by rw [D4.out.1, hr.1, List.append_nil]) D4.out.2.1 (by rw [Plain.srt_length, List.length_take, List.length_drop]; omega) (by rw [Plain.srt_length, List.length_drop, List.length_drop]; omega) (by rw [Plain.srt_length, List.length_take, List.length_drop]; omega) (by rw [Plain.srt_length, List.length_drop, List.length_drop]; omega) (Plain.srt_sorted hO _) (Plain.srt_sorted hO _))
                have HR := Lib.hid hr
                clear S4 hr hz0
                go_wp2_with (go_at_fn 35; refine HS.out.mono ?_; rintro e w4 ⟨rfl, d5, hd5, hd6, hd7⟩)
                have S5 : Aside (SWK enc k w0 blk off d5 w4) := hd6
                have D5 := Lib.hid hd7
                clear hd6 hd7
                go_roundg (sz - s2)
                case measure => omega
                case rel => exact ⟨s2, d5, rfl, by omega, by omega, Nat.le_refl _, hd5, S5, by show _ = _; rw [D5.out, ← D4.out.2.2, ← hs3, HR.out.2, List.append_nil]⟩
              · have hltz4 : ¬ (m : Int) < (sz : Int) := by omega
                go_wp2
                go_roundg (sz - s2)
                case measure => omega
                case rel =>
                  refine ⟨s2, dk', rfl, by omega, by omega, Nat.le_refl _, hds', S4, ?_⟩
                  show _ = _
                  have hz := HZ.out.2
                  rw [D4.out.1, ← D4.out.2.2, Plain.runs_few (s := s) (by simp; omega), Plain.runs_few (s := s2) (by simp; omega)]
        · have hltz2 : ¬ (s : Int) < (sz : Int) := by omega
          go_wp2
          go_end0
          exact ⟨rfl, dj, hdj, S3.out, by rw [D3.out, Plain.runs_few (by rw [HZ.out.2]; omega)]⟩
end Go.Proofs.Ytkhlgjkbkpbhiaa
