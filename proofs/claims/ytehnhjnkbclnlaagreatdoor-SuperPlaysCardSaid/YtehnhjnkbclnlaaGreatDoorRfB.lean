/-
  Layer 7's given answer: Boot. Nothing is assumed.
-/
import Derived.Test.YtehnhjnkbclnlaaGreatDoorRfT

namespace Go.Proofs.YtehnhjnkbclnlaaGreatDoor
open Go.ChangeShapes Go.WideShapes Go.ChangeAt Go.RowKit
set_option maxRecDepth 100000

theorem stay7 {w w' : World} {b : Nat} {cs : Array Value} {t : TypeId} (h : Blk w b cs t) (k : Below w.heap.size w w') : Blk w' b cs t := (Kept.of k []).blk h (by simp)
theorem run_loadU32 (W : World) (a : Addr) (z : Int) (h : W.cell? a = some (.int .u32 z)) : (Instr.loadAt 70 (.pointer (some a))).run Tryz.prog W = .ok (.int .u32 z) W := by
  go_simp
/-- the hurts so far -/
def kj7 (d : Plain.Dv) (keep : List Bool) (hurt : List Plain.Hu) (j : Nat) : Nat → List UInt8 := (hurt.take j).foldl (d.hurt1 keep) (d.bk keep d.loose.length)
theorem kj7_succ (d : Plain.Dv) (keep : List Bool) (hurt : List Plain.Hu) (j : Nat) (hj : j < hurt.length) : kj7 d keep hurt (j + 1) = d.hurt1 keep (kj7 d keep hurt j) hurt[j] := by
  unfold kj7
  rw [List.take_succ_eq_append_getElem hj, List.foldl_append]
  rfl
theorem kj7_len (d : Plain.Dv) (h : d.Ok) (keep : List Bool) (hurt : List Plain.Hu) (j : Nat) : ∀ i, i < d.n → (kj7 d keep hurt j i).length = 64 := d.hurts_length keep _ _ (d.bk_length h keep _)
theorem hurt_no (d : Plain.Dv) (keep : List Bool) (K : Nat → List UInt8) (u : Plain.Hu) (h : d.hits keep u = false ∨ u.at_ < 0 ∨ 512 ≤ u.at_) : d.hurt1 keep K u = K := by
  unfold Plain.Dv.hurt1
  split
  · rename_i hh
    rcases h with h | h
    · rw [h] at hh; cases hh
    · rw [Plain.turn_out _ _ _ h, Plain.upd_self]
  · rfl
/-- the box of a device that is not a thing further -/
def box7 (n bk bw bl : Nat) (d : Plain.Dv) : Array Value := #[.slice (some ⟨bk, 0, none⟩) n n, .slice (some ⟨bw, 0, none⟩) n n, .slice (some ⟨bl, 0, none⟩) n n, .bool d.down, .int .i64 (d.done : Int), .int .i64 (d.left : Int), .bool d.cut]

set_option maxHeartbeats 4000000 in
theorem rboot_any (w : World) (bk bw bl g : Nat) (d : Plain.Dv) (keep : List Bool) (hurt : List Plain.Hu) (Ak Ah : Option Addr) (kn kcap hn hcap : Nat) (hkn : keep.length = kn) (hhn : hurt.length = hn) (hkm : kn ≤ maxLen) (hhm : hn ≤ maxLen)
    (hLk : Lies w Ak (bools keep)) (hLh : Lies w Ah (flatH hurt)) (hok : Off [bk, bw, bl, g] Ak (bools keep)) (hoh : Off [bk, bw, bl, g] Ah (flatH hurt)) (hbits : ∀ h ∈ hurt, h.bits < 4294967296) (h : IsRef w bk bw bl g d) :
    Calls Tryz.prog 13 #[.pointer (some ⟨g, 0, none⟩), .slice Ak kn kcap, .slice Ah hn hcap] w fun e w' => e = .returned (.tuple #[]) ∧ IsRef w' bk bw bl g (d.boot keep hurt) ∧ Kept [bk, bw, bl, g] w w' := by
  have HLS := Lib.hid (rloose_any w bk bw bl g d h)
  have HOKD := Lib.hid h.ok
  obtain ⟨n, hn0⟩ : ∃ n, d.n = n := ⟨_, rfl⟩
  have HN := Lib.hid hn0
  have hn2 : n ≤ 4096 := by rw [← hn0]; exact h.ok.few
  have hp := h.apart
  have hlt := h.lts
  have hll := d.loose_len
  rw [hn0] at hll
  have HX := Lib.hid (show Blk w g (box7 n bk bw bl d) 63 by rw [← hn0]; exact h.box)
  have HKP := Lib.hid (show RowN w bk 9 n (fun i => .string (str (d.bk keep 0 i))) by rw [← hn0]; exact h.kept)
  obtain ⟨Wf, hwf, hwr⟩ := h.wr
  rw [hn0] at hwf
  have HWF := Lib.hid hwf
  have HWR := Lib.hid hwr
  have HLP := Lib.hid (show ∃ Lf : Nat → Bool, RowN w bl 4 n (fun i => .bool (Lf i)) ∧ ∀ i, Lf i = true → (d.wr i).isSome = true ∧ i ∉ d.loose.take 0 from ⟨fun i => (d.wr i).isSome, by rw [← hn0]; exact h.loose, fun i hi => ⟨hi, by simp⟩⟩)
  have HLK := Lib.hid hLk
  have HLH := Lib.hid hLh
  have HOK := Lib.hid hok
  have HOH := Lib.hid hoh
  have HKN := Lib.hid hkn
  have HHN := Lib.hid hhn
  have HBI := Lib.hid hbits
  unfold maxLen at hkm hhm
  clear h hn0 hwf hwr hLk hLh hok hoh hkn hhn hbits
  go_enter Tryz.func13, Tryz.ntmps13
  go_wp2_with fail
  refine HLS.out.mono ?_
  rintro e w1 ⟨v, rfl, hown, hb1⟩
  obtain ⟨Al, capl, rfl, hlc, hlm, hnl, hLl, hAl⟩ := own_off hown
  have z1 := hb1.size
  have HOL := Lib.hid (show Off [bk, bw, bl, g] Al (nums d.loose) from .inr fun ad e hm => by
    have := hAl ad e
    simp at hm
    omega)
  have HLL := Lib.hid hLl
  have HLK := Lib.hid (HLK.out.below hb1)
  have HLH := Lib.hid (HLH.out.below hb1)
  have HX := Lib.hid (stay7 HX.out hb1)
  have HKP := Lib.hid (HKP.out.kept (Kept.of hb1 []) (by simp))
  have HWF := Lib.hid (HWF.out.kept (Kept.of hb1 []) (by simp))
  have HLP := Lib.hid (show ∃ Lf : Nat → Bool, RowN w1 bl 4 n (fun i => .bool (Lf i)) ∧ ∀ i, Lf i = true → (d.wr i).isSome = true ∧ i ∉ d.loose.take 0 by
    obtain ⟨Lf, a, b⟩ := HLP.out
    exact ⟨Lf, a.kept (Kept.of hb1 []) (by simp), b⟩)
  have HB1 := Lib.hid hb1
  obtain ⟨m, hm⟩ : ∃ m, d.loose.length = m := ⟨_, rfl⟩
  have HM := Lib.hid hm
  rw [hm] at hlc hll
  rw [hm]
  clear hown hLl hb1 hnl hm hAl HLS
  go_wp2
  go_loopw [7] (fun s wr => ∃ k : Nat, s = .int .i64 (k : Int) ∧ k ≤ m ∧ Blk wr g (box7 n bk bw bl d) 63 ∧ RowN wr bk 9 n (fun i => .string (str (d.bk keep k i))) ∧ RowN wr bw 9 n (fun i => .string (Wf i)) ∧ (∃ Lf : Nat → Bool, RowN wr bl 4 n (fun i => .bool (Lf i)) ∧ ∀ i, Lf i = true → (d.wr i).isSome = true ∧ i ∉ d.loose.take k) ∧ Kept [bk, bl] w1 wr) (fun s _ => m - (RowKit.intOf s).toNat)
  case atStart => exact ⟨0, rfl, Nat.zero_le _, HX.out, HKP.out, HWF.out, HLP.out, Kept.refl _ _⟩
  case round =>
    clear HX HKP HWF HLP
    obtain ⟨k, rfl, hk, hx, hkp, hwf, ⟨Lf, hlf, hlf2⟩, hkk⟩ := hrel
    have HX := Lib.hid hx
    have HKP := Lib.hid hkp
    have HWF := Lib.hid hwf
    have HLF := Lib.hid hlf
    have HLF2 := Lib.hid hlf2
    have HKK := Lib.hid hkk
    have zr := hkk.size
    clear hx hkp hwf hlf hlf2 hkk
    by_cases hkm2 : k < m
    · have hkm := hkm2
      have hkml : k < d.loose.length := by rw [HM.out]; exact hkm
      obtain ⟨lo, hlx⟩ : ∃ lo, d.loose[k] = lo := ⟨_, rfl⟩
      have hlon : lo < n := by rw [← hlx, ← HN.out]; exact d.loose_lt k hkml
      obtain ⟨s, hs⟩ : ∃ s, d.wr lo = some s := by rw [← hlx]; exact d.loose_some k hkml
      have hsec : d.sec lo = s := by unfold Plain.Dv.sec; rw [hs]; rfl
      have hgd : d.loose.getD k 0 = lo := by rw [List.getD_eq_getElem?_getD, List.getElem?_eq_getElem hkml, Option.getD_some, hlx]
      have hbs := d.bk_succ keep k
      rw [hgd, hsec] at hbs
      have HBS := Lib.hid hbs
      obtain ⟨S, hS⟩ : ∃ S, str s = S := ⟨_, rfl⟩
      have HWK := Lib.hid (show Wf lo = S by rw [← hS]; exact HWR.out lo s hs)
      have HSS := Lib.hid hS
      have HTK := Lib.hid (show ∀ i, (if i = lo then false else Lf i) = true → (d.wr i).isSome = true ∧ i ∉ d.loose.take (k + 1) from fun i hi => by
        by_cases e : i = lo
        · rw [if_pos e] at hi; cases hi
        · rw [if_neg e] at hi
          obtain ⟨a1, a2⟩ := HLF2.out i hi
          refine ⟨a1, ?_⟩
          rw [List.take_succ_eq_append_getElem hkml, hlx]
          simp only [List.mem_append, List.mem_singleton, not_or]
          exact ⟨a2, e⟩)
      obtain ⟨al, rfl, _, _⟩ := (HLL.out.kept (HOL.out.mono (by simp)) HKK.out).at_ (k := k) (by rw [nums_length]; exact hkml)
      have HLOG := Lib.hid (show ∀ W, Kept [bk, bl] w1 W → W.cell? (al.add k) = some (.int .i64 (lo : Int)) from fun W hW => by
        obtain ⟨al2, e, _, h3⟩ := (HLL.out.kept (HOL.out.mono (by simp)) hW).at_ (k := k) (by rw [nums_length]; exact hkml)
        injection e with e
        subst e
        rw [h3]; simp [nums, hlx])
      have hk0 : (0 : Int) ≤ (k : Int) := by omega
      clear hbs hgd hsec hs hS hlx
      by_cases hkk : k < kn
      · have t1 : decide ((k : Int) < (kn : Int)) = true := decide_eq_true (by omega)
        have hk1 : (k : Int) < (kn : Int) := by omega
        have hkkl : k < keep.length := by rw [HKN.out]; exact hkk
        obtain ⟨adk, rfl, _, hkc0⟩ := (HLK.out.kept (HOK.out.mono (by simp)) HKK.out).at_ (k := k) (by rw [bools_length]; exact hkkl)
        obtain ⟨bb, hbb⟩ : ∃ bb, keep[k] = bb := ⟨_, rfl⟩
        have hkcell : wr.cell? (adk.add k) = some (.bool bb) := by
          rw [hkc0]; simp [bools, hbb]
        have hge : keep.getD k false = bb := by rw [List.getD_eq_getElem?_getD, List.getElem?_eq_getElem hkkl, Option.getD_some, hbb]
        rw [hge] at HBS
        clear hkc0 hbb hge
        cases bb with
        | true =>
          have HBS2 := Lib.hid (show d.bk keep (k + 1) = Plain.upd (d.bk keep k) lo s by rw [HBS.out, if_pos ⟨hkml, rfl⟩])
          clear HBS
          have hbd : Below wr.heap.size wr wr.drew := (Below.refl _ _).drew
          have HC0 := Lib.hid (fun (W : World) (hW : Below wr.heap.size wr W) => run_loadSl W ⟨g, 0, none⟩ (.slice (some ⟨bk, 0, none⟩) n n) ((stay7 HX.out hW).cell 0))
          have HC1 := Lib.hid (fun (W : World) (hW : Below wr.heap.size wr W) => run_loadSl W ⟨g, 1, none⟩ (.slice (some ⟨bw, 0, none⟩) n n) ((stay7 HX.out hW).cell 1))
          have HLO := Lib.hid (fun (W : World) (hW : Below wr.heap.size wr W) => run_loadI W (al.add k) (lo : Int) (HLOG.out W (HKK.out.trans (Kept.of hW _))))
          have HCW := Lib.hid (fun (W : World) (hW : Below wr.heap.size wr W) => run_loadS W ⟨bw, lo, none⟩ S (by have := (HWF.out.kept (Kept.of hW []) (by simp)).cell hlon; rwa [HWK.out] at this))
          go_wp2
          refine wp_late (by kernel_rfl) 132 [(28, [0]), (29, [28]), (30, [29]), (31, [30]), (32, [6]), (33, [7]), (34, [32, 33]), (35, [34]), (36, [0]), (37, [36]), (38, [37]), (39, [38]), (40, [6]), (41, [7]), (42, [40, 41]), (43, [42]), (44, [39, 43]), (45, [44]), (46, [31, 35]), (1019, [46, 45])]
            [Fact.is (.pointer (some ⟨g, 0, none⟩)), Fact.is (.pointer (some ⟨g, 0, none⟩)), Fact.is (.pointer (some ⟨g, 0, none⟩)), Fact.is (.slice (some ⟨bk, 0, none⟩) n n), Fact.is (.slice (some al) m capl), Fact.is (.int .i64 (k : Int)), Fact.is (.pointer (some (Addr.add al k))), Fact.is (.int .i64 (lo : Int)), Fact.is (.pointer (some ⟨g, 0, none⟩)), Fact.is (.pointer (some ⟨g, 0, none⟩)), Fact.is (.pointer (some ⟨g, 1, none⟩)), Fact.is (.slice (some ⟨bw, 0, none⟩) n n), Fact.is (.slice (some al) m capl), Fact.is (.int .i64 (k : Int)), Fact.is (.pointer (some (Addr.add al k))), Fact.is (.int .i64 (lo : Int)), Fact.is (.pointer (some ⟨bw, lo, none⟩)), Fact.is (.string S), Fact.is (.pointer (some ⟨bk, lo, none⟩)), default]
            [1, 1, 1, 1, 1, 1, 1, 1, 1, 1, 1, 1, 1, 1, 1, 1, 1, 1, 1, 2] [19] [] [28, 29, 30, 31, 32, 33, 34, 35, 36, 37, 38, 39, 40, 41, 42, 43, 44, 45, 46] ((fun _ _ w' => ∃ W, Below wr.heap.size wr W ∧ w' = W.setCell ⟨bk, lo, none⟩ (.string S)))
            (by kernel_rfl) (by kernel_rfl) rfl rfl ⟨?s0, ?s1, ?s2, ?s3, ?s4, ?s5, ?s6, ?s7, ?s8, ?s9, ?s10, ?s11, ?s12, ?s13, ?s14, ?s15, ?s16, ?s17, ?s18, trivial⟩ ?late ?fin
          case s0 =>
            intro ρ W hb hc hf hr
            obtain ⟨r0, -⟩ := hr
            have e0 : ρ (.tmp 0) = .pointer (some ⟨g, 0, none⟩) := r0
            clear r0
            refine under_none rfl ?_
            exact ⟨e0, Below.refl _ _⟩
          case s1 =>
            intro ρ W hb hc hf hr
            obtain ⟨r28, -⟩ := hr
            have e28 : ρ (.tmp 28) = .pointer (some ⟨g, 0, none⟩) := r28
            clear r28
            refine under_none rfl ?_
            simp [execOp, e28, go_sem, softUpon, Fact.is, Below.refl]
          case s2 =>
            intro ρ W hb hc hf hr
            obtain ⟨r29, -⟩ := hr
            have e29 : ρ (.tmp 29) = .pointer (some ⟨g, 0, none⟩) := r29
            clear r29
            refine under_none rfl ?_
            exact soft_field e29 rfl (fun W => by go_simp)
          case s3 =>
            intro ρ W hb hc hf hr
            obtain ⟨r30, -⟩ := hr
            have e30 : ρ (.tmp 30) = .pointer (some ⟨g, 0, none⟩) := r30
            clear r30
            refine under_none rfl ?_
            exact soft_load e30 (HC0.out W (hbd.trans (hb.mono (by simp)))) rfl
          case s4 =>
            intro ρ W hb hc hf hr
            obtain ⟨r6, -⟩ := hr
            have e6 : ρ (.tmp 6) = .slice (some al) m capl := r6
            clear r6
            refine under_none rfl ?_
            exact ⟨e6, Below.refl _ _⟩
          case s5 =>
            intro ρ W hb hc hf hr
            obtain ⟨r7, -⟩ := hr
            have e7 : ρ (.tmp 7) = .int .i64 (k : Int) := r7
            clear r7
            refine under_none rfl ?_
            exact ⟨e7, Below.refl _ _⟩
          case s6 =>
            intro ρ W hb hc hf hr
            obtain ⟨r32, r33, -⟩ := hr
            have e32 : ρ (.tmp 32) = .slice (some al) m capl := r32
            clear r32
            have e33 : ρ (.tmp 33) = .int .i64 (k : Int) := r33
            clear r33
            refine under_none rfl ?_
            exact soft_index e32 e33 (run_idxInt W al m capl k hkm) rfl
          case s7 =>
            intro ρ W hb hc hf hr
            obtain ⟨r34, -⟩ := hr
            have e34 : ρ (.tmp 34) = .pointer (some (Addr.add al k)) := r34
            clear r34
            refine under_none rfl ?_
            exact soft_load e34 (HLO.out W (hbd.trans (hb.mono (by simp)))) rfl
          case s8 =>
            intro ρ W hb hc hf hr
            obtain ⟨r0, -⟩ := hr
            have e0 : ρ (.tmp 0) = .pointer (some ⟨g, 0, none⟩) := r0
            clear r0
            refine under_none rfl ?_
            exact ⟨e0, Below.refl _ _⟩
          case s9 =>
            intro ρ W hb hc hf hr
            obtain ⟨r36, -⟩ := hr
            have e36 : ρ (.tmp 36) = .pointer (some ⟨g, 0, none⟩) := r36
            clear r36
            refine under_none rfl ?_
            simp [execOp, e36, go_sem, softUpon, Fact.is, Below.refl]
          case s10 =>
            intro ρ W hb hc hf hr
            obtain ⟨r37, -⟩ := hr
            have e37 : ρ (.tmp 37) = .pointer (some ⟨g, 0, none⟩) := r37
            clear r37
            refine under_none rfl ?_
            exact soft_field e37 rfl (fun W => by go_simp)
          case s11 =>
            intro ρ W hb hc hf hr
            obtain ⟨r38, -⟩ := hr
            have e38 : ρ (.tmp 38) = .pointer (some ⟨g, 1, none⟩) := r38
            clear r38
            refine under_none rfl ?_
            exact soft_load e38 (HC1.out W (hbd.trans (hb.mono (by simp)))) rfl
          case s12 =>
            intro ρ W hb hc hf hr
            obtain ⟨r6, -⟩ := hr
            have e6 : ρ (.tmp 6) = .slice (some al) m capl := r6
            clear r6
            refine under_none rfl ?_
            exact ⟨e6, Below.refl _ _⟩
          case s13 =>
            intro ρ W hb hc hf hr
            obtain ⟨r7, -⟩ := hr
            have e7 : ρ (.tmp 7) = .int .i64 (k : Int) := r7
            clear r7
            refine under_none rfl ?_
            exact ⟨e7, Below.refl _ _⟩
          case s14 =>
            intro ρ W hb hc hf hr
            obtain ⟨r40, r41, -⟩ := hr
            have e40 : ρ (.tmp 40) = .slice (some al) m capl := r40
            clear r40
            have e41 : ρ (.tmp 41) = .int .i64 (k : Int) := r41
            clear r41
            refine under_none rfl ?_
            exact soft_index e40 e41 (run_idxInt W al m capl k hkm) rfl
          case s15 =>
            intro ρ W hb hc hf hr
            obtain ⟨r42, -⟩ := hr
            have e42 : ρ (.tmp 42) = .pointer (some (Addr.add al k)) := r42
            clear r42
            refine under_none rfl ?_
            exact soft_load e42 (HLO.out W (hbd.trans (hb.mono (by simp)))) rfl
          case s16 =>
            intro ρ W hb hc hf hr
            obtain ⟨r39, r43, -⟩ := hr
            have e39 : ρ (.tmp 39) = .slice (some ⟨bw, 0, none⟩) n n := r39
            clear r39
            have e43 : ρ (.tmp 43) = .int .i64 (lo : Int) := r43
            clear r43
            refine under_none rfl ?_
            exact soft_index e39 e43 (run_idxS W bw n n lo hlon) rfl
          case s17 =>
            intro ρ W hb hc hf hr
            obtain ⟨r44, -⟩ := hr
            have e44 : ρ (.tmp 44) = .pointer (some ⟨bw, lo, none⟩) := r44
            clear r44
            refine under_none rfl ?_
            exact soft_load e44 (HCW.out W (hbd.trans (hb.mono (by simp)))) rfl
          case s18 =>
            intro ρ W hb hc hf hr
            obtain ⟨r31, r35, -⟩ := hr
            have e31 : ρ (.tmp 31) = .slice (some ⟨bk, 0, none⟩) n n := r31
            clear r31
            have e35 : ρ (.tmp 35) = .int .i64 (lo : Int) := r35
            clear r35
            refine under_none rfl ?_
            exact soft_index e31 e35 (run_idxS W bk n n lo hlon) rfl
          case late =>
            intro p j o hj ho a W hsz h0 h1 hfr hou
            match p, hj with
            | 0, hj =>
              obtain rfl : 19 = j := Option.some.inj hj
              obtain rfl := Option.some.inj ho
              clear hj ho
              obtain ⟨hb, hhard⟩ := h0 rfl
              have e46 : a.eval (.tmp 46) = .pointer (some ⟨bk, lo, none⟩) := hhard 46 18 rfl rfl
              have e45 : a.eval (.tmp 45) = .string S := hhard 45 17 rfl rfl
              clear h0 h1 hhard hfr hou
              have hW := hbd.trans (hb.mono (by simp))
              refine late_store (x := .tmp 46) (y := .tmp 45) (w' := W.setCell ⟨bk, lo, none⟩ (.string S)) rfl (by rw [e46, e45]; exact run_storeS W _ _ _ ((HKP.out.kept (Kept.of hW []) (by simp)).cell hlon) ((HKP.out.kept (Kept.of hW []) (by simp)).frozen lo)) ⟨undef, rfl, W, hW, rfl⟩
            | q + 1, hj => cases hj
          case fin =>
            intro a wy ha hP
            obtain ⟨W, hW, rfl⟩ := hP
            have k1 : Kept [bk] wr (W.setCell ⟨bk, lo, none⟩ (.string S)) := (Kept.of hW _).setCell (by simp) _
            have HKP2 := Lib.hid (show RowN (W.setCell ⟨bk, lo, none⟩ (.string S)) bk 9 n (fun i => .string (str (d.bk keep (k + 1) i))) from ((HKP.out.kept (Kept.of hW []) (by simp)).set hlon (.string S)).congr fun i _ => by
              rw [HBS2.out, ← HSS.out]
              unfold Plain.upd
              by_cases e : i = lo
              · rw [if_pos e]; try dsimp only
                rw [if_pos e]
              · rw [if_neg e]; try dsimp only
                rw [if_neg e])
            obtain ⟨wy, hwy⟩ : ∃ wy, W.setCell ⟨bk, lo, none⟩ (.string S) = wy := ⟨_, rfl⟩
            rw [hwy] at k1 HKP2 ⊢
            have HX := Lib.hid (k1.blk HX.out (by simp; exact fun h => hp.2.2.2.1 h.symm))
            have HWF := Lib.hid (HWF.out.kept k1 (by simp; exact fun h => hp.1 h.symm))
            have HLF := Lib.hid (HLF.out.kept k1 (by simp; exact fun h => hp.2.1 h.symm))
            have hx2 := Lib.hid (HKK.out.trans (k1.mono (by simp)))
            have zy := k1.size
            clear k1 hwy hW HC0 HC1 HLO HCW
            simp only [List.foldl_cons, List.foldl_nil] at ha
            generalize a.tmps.getD 28 undef = v28 at ha
            generalize a.tmps.getD 29 undef = v29 at ha
            generalize a.tmps.getD 30 undef = v30 at ha
            generalize a.tmps.getD 31 undef = v31 at ha
            generalize a.tmps.getD 32 undef = v32 at ha
            generalize a.tmps.getD 33 undef = v33 at ha
            generalize a.tmps.getD 34 undef = v34 at ha
            generalize a.tmps.getD 35 undef = v35 at ha
            generalize a.tmps.getD 36 undef = v36 at ha
            generalize a.tmps.getD 37 undef = v37 at ha
            generalize a.tmps.getD 38 undef = v38 at ha
            generalize a.tmps.getD 39 undef = v39 at ha
            generalize a.tmps.getD 40 undef = v40 at ha
            generalize a.tmps.getD 41 undef = v41 at ha
            generalize a.tmps.getD 42 undef = v42 at ha
            generalize a.tmps.getD 43 undef = v43 at ha
            generalize a.tmps.getD 44 undef = v44 at ha
            generalize a.tmps.getD 45 undef = v45 at ha
            generalize a.tmps.getD 46 undef = v46 at ha
            simp only [Act.put, List.setIfInBounds_toArray, List.set_cons_succ, List.set_cons_zero] at ha
            subst ha
            have k2 := hx2.out
            have hbd : Below wy.heap.size wy wy.drew := (Below.refl _ _).drew
            have HC2 := Lib.hid (fun (W : World) (hW : Below wy.heap.size wy W) => run_loadBl W ⟨g, 2, none⟩ (.slice (some ⟨bl, 0, none⟩) n n) ((stay7 HX.out hW).cell 2))
            have HLO := Lib.hid (fun (W : World) (hW : Below wy.heap.size wy W) => run_loadI W (al.add k) (lo : Int) (HLOG.out W (k2.trans (Kept.of hW _))))
            clear k2
            go_wp2
            refine wp_late (by kernel_rfl) 132 [(47, [0]), (48, [47]), (49, [48]), (50, [49]), (51, [6]), (52, [7]), (53, [51, 52]), (54, [53]), (55, [50, 54]), (1009, [55])]
              [Fact.is (.pointer (some ⟨g, 0, none⟩)), Fact.is (.pointer (some ⟨g, 0, none⟩)), Fact.is (.pointer (some ⟨g, 2, none⟩)), Fact.is (.slice (some ⟨bl, 0, none⟩) n n), Fact.is (.slice (some al) m capl), Fact.is (.int .i64 (k : Int)), Fact.is (.pointer (some (Addr.add al k))), Fact.is (.int .i64 (lo : Int)), Fact.is (.pointer (some ⟨bl, lo, none⟩)), default]
              [1, 1, 1, 1, 1, 1, 1, 1, 1, 2] [9] [] [47, 48, 49, 50, 51, 52, 53, 54, 55] ((fun _ _ w' => ∃ W, Below wy.heap.size wy W ∧ w' = W.setCell ⟨bl, lo, none⟩ (.bool false)))
              (by kernel_rfl) (by kernel_rfl) rfl rfl ⟨?s0, ?s1, ?s2, ?s3, ?s4, ?s5, ?s6, ?s7, ?s8, trivial⟩ ?late ?fin
            case s0 =>
              intro ρ W hb hc hf hr
              obtain ⟨r0, -⟩ := hr
              have e0 : ρ (.tmp 0) = .pointer (some ⟨g, 0, none⟩) := r0
              clear r0
              refine under_none rfl ?_
              exact ⟨e0, Below.refl _ _⟩
            case s1 =>
              intro ρ W hb hc hf hr
              obtain ⟨r47, -⟩ := hr
              have e47 : ρ (.tmp 47) = .pointer (some ⟨g, 0, none⟩) := r47
              clear r47
              refine under_none rfl ?_
              simp [execOp, e47, go_sem, softUpon, Fact.is, Below.refl]
            case s2 =>
              intro ρ W hb hc hf hr
              obtain ⟨r48, -⟩ := hr
              have e48 : ρ (.tmp 48) = .pointer (some ⟨g, 0, none⟩) := r48
              clear r48
              refine under_none rfl ?_
              exact soft_field e48 rfl (fun W => by go_simp)
            case s3 =>
              intro ρ W hb hc hf hr
              obtain ⟨r49, -⟩ := hr
              have e49 : ρ (.tmp 49) = .pointer (some ⟨g, 2, none⟩) := r49
              clear r49
              refine under_none rfl ?_
              exact soft_load e49 (HC2.out W (hbd.trans (hb.mono (by simp)))) rfl
            case s4 =>
              intro ρ W hb hc hf hr
              obtain ⟨r6, -⟩ := hr
              have e6 : ρ (.tmp 6) = .slice (some al) m capl := r6
              clear r6
              refine under_none rfl ?_
              exact ⟨e6, Below.refl _ _⟩
            case s5 =>
              intro ρ W hb hc hf hr
              obtain ⟨r7, -⟩ := hr
              have e7 : ρ (.tmp 7) = .int .i64 (k : Int) := r7
              clear r7
              refine under_none rfl ?_
              exact ⟨e7, Below.refl _ _⟩
            case s6 =>
              intro ρ W hb hc hf hr
              obtain ⟨r51, r52, -⟩ := hr
              have e51 : ρ (.tmp 51) = .slice (some al) m capl := r51
              clear r51
              have e52 : ρ (.tmp 52) = .int .i64 (k : Int) := r52
              clear r52
              refine under_none rfl ?_
              exact soft_index e51 e52 (run_idxInt W al m capl k hkm) rfl
            case s7 =>
              intro ρ W hb hc hf hr
              obtain ⟨r53, -⟩ := hr
              have e53 : ρ (.tmp 53) = .pointer (some (Addr.add al k)) := r53
              clear r53
              refine under_none rfl ?_
              exact soft_load e53 (HLO.out W (hbd.trans (hb.mono (by simp)))) rfl
            case s8 =>
              intro ρ W hb hc hf hr
              obtain ⟨r50, r54, -⟩ := hr
              have e50 : ρ (.tmp 50) = .slice (some ⟨bl, 0, none⟩) n n := r50
              clear r50
              have e54 : ρ (.tmp 54) = .int .i64 (lo : Int) := r54
              clear r54
              refine under_none rfl ?_
              exact soft_index e50 e54 (run_idxB W bl n n lo hlon) rfl
            case late =>
              intro p j o hj ho a W hsz h0 h1 hfr hou
              match p, hj with
              | 0, hj =>
                obtain rfl : 9 = j := Option.some.inj hj
                obtain rfl := Option.some.inj ho
                clear hj ho
                obtain ⟨hb, hhard⟩ := h0 rfl
                have e55 : a.eval (.tmp 55) = .pointer (some ⟨bl, lo, none⟩) := hhard 55 8 rfl rfl
                clear h0 h1 hhard hfr hou
                have hW := hbd.trans (hb.mono (by simp))
                refine late_store (x := .tmp 55) (y := .const (.bool false)) (w' := W.setCell ⟨bl, lo, none⟩ (.bool false)) rfl (by rw [e55]; exact run_storeB W _ _ _ ((HLF.out.kept (Kept.of hW []) (by simp)).cell hlon) ((HLF.out.kept (Kept.of hW []) (by simp)).frozen lo)) ⟨undef, rfl, W, hW, rfl⟩
              | q + 1, hj => cases hj
            case fin =>
              intro a w6 ha hP
              obtain ⟨W, hW, rfl⟩ := hP
              have k1 : Kept [bl] wy (W.setCell ⟨bl, lo, none⟩ (.bool false)) := (Kept.of hW _).setCell (by simp) _
              have HLF3 := Lib.hid ((HLF.out.kept (Kept.of hW []) (by simp)).set hlon (.bool false))
              obtain ⟨w6, hw6⟩ : ∃ w6, W.setCell ⟨bl, lo, none⟩ (.bool false) = w6 := ⟨_, rfl⟩
              rw [hw6] at k1 HLF3 ⊢
              have HK1 := Lib.hid k1
              clear k1 hw6 hW HC2 HLO
              simp only [List.foldl_cons, List.foldl_nil] at ha
              generalize a.tmps.getD 47 undef = v47 at ha
              generalize a.tmps.getD 48 undef = v48 at ha
              generalize a.tmps.getD 49 undef = v49 at ha
              generalize a.tmps.getD 50 undef = v50 at ha
              generalize a.tmps.getD 51 undef = v51 at ha
              generalize a.tmps.getD 52 undef = v52 at ha
              generalize a.tmps.getD 53 undef = v53 at ha
              generalize a.tmps.getD 54 undef = v54 at ha
              generalize a.tmps.getD 55 undef = v55 at ha
              simp only [Act.put, List.setIfInBounds_toArray, List.set_cons_succ, List.set_cons_zero] at ha
              subst ha
              go_wp2
              go_roundw
              case rel =>
                have k1 := HK1.out
                refine ⟨k + 1, by go_num, by omega, k1.blk HX.out (by simp; exact fun h => hp.2.2.2.2.2 h.symm), HKP2.out.kept k1 (by simp; exact hp.2.1), HWF.out.kept k1 (by simp; exact hp.2.2.1), ⟨fun i => if i = lo then false else Lf i, HLF3.out.congr fun i _ => by by_cases e : i = lo <;> simp [Plain.upd, e], HTK.out⟩, hx2.out.trans (k1.mono (by simp))⟩
              case measure => simp [RowKit.intOf]; omega
        | false =>
          have HKP2 := Lib.hid (show RowN wr bk 9 n (fun i => .string (str (d.bk keep (k + 1) i))) by rw [HBS.out, if_neg (by simp)]; exact HKP.out)
          have hx2 := HKK
          have k2 := hx2.out
          have hbd : Below wr.heap.size wr wr.drew := (Below.refl _ _).drew
          have HC2 := Lib.hid (fun (W : World) (hW : Below wr.heap.size wr W) => run_loadBl W ⟨g, 2, none⟩ (.slice (some ⟨bl, 0, none⟩) n n) ((stay7 HX.out hW).cell 2))
          have HLO := Lib.hid (fun (W : World) (hW : Below wr.heap.size wr W) => run_loadI W (al.add k) (lo : Int) (HLOG.out W (k2.trans (Kept.of hW _))))
          clear k2
          go_wp2
          refine wp_late (by kernel_rfl) 132 [(47, [0]), (48, [47]), (49, [48]), (50, [49]), (51, [6]), (52, [7]), (53, [51, 52]), (54, [53]), (55, [50, 54]), (1009, [55])]
            [Fact.is (.pointer (some ⟨g, 0, none⟩)), Fact.is (.pointer (some ⟨g, 0, none⟩)), Fact.is (.pointer (some ⟨g, 2, none⟩)), Fact.is (.slice (some ⟨bl, 0, none⟩) n n), Fact.is (.slice (some al) m capl), Fact.is (.int .i64 (k : Int)), Fact.is (.pointer (some (Addr.add al k))), Fact.is (.int .i64 (lo : Int)), Fact.is (.pointer (some ⟨bl, lo, none⟩)), default]
            [1, 1, 1, 1, 1, 1, 1, 1, 1, 2] [9] [] [47, 48, 49, 50, 51, 52, 53, 54, 55] ((fun _ _ w' => ∃ W, Below wr.heap.size wr W ∧ w' = W.setCell ⟨bl, lo, none⟩ (.bool false)))
            (by kernel_rfl) (by kernel_rfl) rfl rfl ⟨?s0, ?s1, ?s2, ?s3, ?s4, ?s5, ?s6, ?s7, ?s8, trivial⟩ ?late ?fin
          case s0 =>
            intro ρ W hb hc hf hr
            obtain ⟨r0, -⟩ := hr
            have e0 : ρ (.tmp 0) = .pointer (some ⟨g, 0, none⟩) := r0
            clear r0
            refine under_none rfl ?_
            exact ⟨e0, Below.refl _ _⟩
          case s1 =>
            intro ρ W hb hc hf hr
            obtain ⟨r47, -⟩ := hr
            have e47 : ρ (.tmp 47) = .pointer (some ⟨g, 0, none⟩) := r47
            clear r47
            refine under_none rfl ?_
            simp [execOp, e47, go_sem, softUpon, Fact.is, Below.refl]
          case s2 =>
            intro ρ W hb hc hf hr
            obtain ⟨r48, -⟩ := hr
            have e48 : ρ (.tmp 48) = .pointer (some ⟨g, 0, none⟩) := r48
            clear r48
            refine under_none rfl ?_
            exact soft_field e48 rfl (fun W => by go_simp)
          case s3 =>
            intro ρ W hb hc hf hr
            obtain ⟨r49, -⟩ := hr
            have e49 : ρ (.tmp 49) = .pointer (some ⟨g, 2, none⟩) := r49
            clear r49
            refine under_none rfl ?_
            exact soft_load e49 (HC2.out W (hbd.trans (hb.mono (by simp)))) rfl
          case s4 =>
            intro ρ W hb hc hf hr
            obtain ⟨r6, -⟩ := hr
            have e6 : ρ (.tmp 6) = .slice (some al) m capl := r6
            clear r6
            refine under_none rfl ?_
            exact ⟨e6, Below.refl _ _⟩
          case s5 =>
            intro ρ W hb hc hf hr
            obtain ⟨r7, -⟩ := hr
            have e7 : ρ (.tmp 7) = .int .i64 (k : Int) := r7
            clear r7
            refine under_none rfl ?_
            exact ⟨e7, Below.refl _ _⟩
          case s6 =>
            intro ρ W hb hc hf hr
            obtain ⟨r51, r52, -⟩ := hr
            have e51 : ρ (.tmp 51) = .slice (some al) m capl := r51
            clear r51
            have e52 : ρ (.tmp 52) = .int .i64 (k : Int) := r52
            clear r52
            refine under_none rfl ?_
            exact soft_index e51 e52 (run_idxInt W al m capl k hkm) rfl
          case s7 =>
            intro ρ W hb hc hf hr
            obtain ⟨r53, -⟩ := hr
            have e53 : ρ (.tmp 53) = .pointer (some (Addr.add al k)) := r53
            clear r53
            refine under_none rfl ?_
            exact soft_load e53 (HLO.out W (hbd.trans (hb.mono (by simp)))) rfl
          case s8 =>
            intro ρ W hb hc hf hr
            obtain ⟨r50, r54, -⟩ := hr
            have e50 : ρ (.tmp 50) = .slice (some ⟨bl, 0, none⟩) n n := r50
            clear r50
            have e54 : ρ (.tmp 54) = .int .i64 (lo : Int) := r54
            clear r54
            refine under_none rfl ?_
            exact soft_index e50 e54 (run_idxB W bl n n lo hlon) rfl
          case late =>
            intro p j o hj ho a W hsz h0 h1 hfr hou
            match p, hj with
            | 0, hj =>
              obtain rfl : 9 = j := Option.some.inj hj
              obtain rfl := Option.some.inj ho
              clear hj ho
              obtain ⟨hb, hhard⟩ := h0 rfl
              have e55 : a.eval (.tmp 55) = .pointer (some ⟨bl, lo, none⟩) := hhard 55 8 rfl rfl
              clear h0 h1 hhard hfr hou
              have hW := hbd.trans (hb.mono (by simp))
              refine late_store (x := .tmp 55) (y := .const (.bool false)) (w' := W.setCell ⟨bl, lo, none⟩ (.bool false)) rfl (by rw [e55]; exact run_storeB W _ _ _ ((HLF.out.kept (Kept.of hW []) (by simp)).cell hlon) ((HLF.out.kept (Kept.of hW []) (by simp)).frozen lo)) ⟨undef, rfl, W, hW, rfl⟩
            | q + 1, hj => cases hj
          case fin =>
            intro a w6 ha hP
            obtain ⟨W, hW, rfl⟩ := hP
            have k1 : Kept [bl] wr (W.setCell ⟨bl, lo, none⟩ (.bool false)) := (Kept.of hW _).setCell (by simp) _
            have HLF3 := Lib.hid ((HLF.out.kept (Kept.of hW []) (by simp)).set hlon (.bool false))
            obtain ⟨w6, hw6⟩ : ∃ w6, W.setCell ⟨bl, lo, none⟩ (.bool false) = w6 := ⟨_, rfl⟩
            rw [hw6] at k1 HLF3 ⊢
            have HK1 := Lib.hid k1
            clear k1 hw6 hW HC2 HLO
            simp only [List.foldl_cons, List.foldl_nil] at ha
            generalize a.tmps.getD 47 undef = v47 at ha
            generalize a.tmps.getD 48 undef = v48 at ha
            generalize a.tmps.getD 49 undef = v49 at ha
            generalize a.tmps.getD 50 undef = v50 at ha
            generalize a.tmps.getD 51 undef = v51 at ha
            generalize a.tmps.getD 52 undef = v52 at ha
            generalize a.tmps.getD 53 undef = v53 at ha
            generalize a.tmps.getD 54 undef = v54 at ha
            generalize a.tmps.getD 55 undef = v55 at ha
            simp only [Act.put, List.setIfInBounds_toArray, List.set_cons_succ, List.set_cons_zero] at ha
            subst ha
            go_wp2
            go_roundw
            case rel =>
              have k1 := HK1.out
              refine ⟨k + 1, by go_num, by omega, k1.blk HX.out (by simp; exact fun h => hp.2.2.2.2.2 h.symm), HKP2.out.kept k1 (by simp; exact hp.2.1), HWF.out.kept k1 (by simp; exact hp.2.2.1), ⟨fun i => if i = lo then false else Lf i, HLF3.out.congr fun i _ => by by_cases e : i = lo <;> simp [Plain.upd, e], HTK.out⟩, hx2.out.trans (k1.mono (by simp))⟩
            case measure => simp [RowKit.intOf]; omega
      · have t1 : decide ((k : Int) < (kn : Int)) = false := decide_eq_false (by omega)
        have HKP2 := Lib.hid (show RowN wr bk 9 n (fun i => .string (str (d.bk keep (k + 1) i))) by
          rw [HBS.out, if_neg (by rw [List.getD_eq_getElem?_getD, List.getElem?_eq_none (by rw [HKN.out]; omega)]; simp)]; exact HKP.out)
        have hx2 := HKK
        have k2 := hx2.out
        have hbd : Below wr.heap.size wr wr.drew := (Below.refl _ _).drew
        have HC2 := Lib.hid (fun (W : World) (hW : Below wr.heap.size wr W) => run_loadBl W ⟨g, 2, none⟩ (.slice (some ⟨bl, 0, none⟩) n n) ((stay7 HX.out hW).cell 2))
        have HLO := Lib.hid (fun (W : World) (hW : Below wr.heap.size wr W) => run_loadI W (al.add k) (lo : Int) (HLOG.out W (k2.trans (Kept.of hW _))))
        clear k2
        go_wp2
        refine wp_late (by kernel_rfl) 132 [(47, [0]), (48, [47]), (49, [48]), (50, [49]), (51, [6]), (52, [7]), (53, [51, 52]), (54, [53]), (55, [50, 54]), (1009, [55])]
          [Fact.is (.pointer (some ⟨g, 0, none⟩)), Fact.is (.pointer (some ⟨g, 0, none⟩)), Fact.is (.pointer (some ⟨g, 2, none⟩)), Fact.is (.slice (some ⟨bl, 0, none⟩) n n), Fact.is (.slice (some al) m capl), Fact.is (.int .i64 (k : Int)), Fact.is (.pointer (some (Addr.add al k))), Fact.is (.int .i64 (lo : Int)), Fact.is (.pointer (some ⟨bl, lo, none⟩)), default]
          [1, 1, 1, 1, 1, 1, 1, 1, 1, 2] [9] [] [47, 48, 49, 50, 51, 52, 53, 54, 55] ((fun _ _ w' => ∃ W, Below wr.heap.size wr W ∧ w' = W.setCell ⟨bl, lo, none⟩ (.bool false)))
          (by kernel_rfl) (by kernel_rfl) rfl rfl ⟨?s0, ?s1, ?s2, ?s3, ?s4, ?s5, ?s6, ?s7, ?s8, trivial⟩ ?late ?fin
        case s0 =>
          intro ρ W hb hc hf hr
          obtain ⟨r0, -⟩ := hr
          have e0 : ρ (.tmp 0) = .pointer (some ⟨g, 0, none⟩) := r0
          clear r0
          refine under_none rfl ?_
          exact ⟨e0, Below.refl _ _⟩
        case s1 =>
          intro ρ W hb hc hf hr
          obtain ⟨r47, -⟩ := hr
          have e47 : ρ (.tmp 47) = .pointer (some ⟨g, 0, none⟩) := r47
          clear r47
          refine under_none rfl ?_
          simp [execOp, e47, go_sem, softUpon, Fact.is, Below.refl]
        case s2 =>
          intro ρ W hb hc hf hr
          obtain ⟨r48, -⟩ := hr
          have e48 : ρ (.tmp 48) = .pointer (some ⟨g, 0, none⟩) := r48
          clear r48
          refine under_none rfl ?_
          exact soft_field e48 rfl (fun W => by go_simp)
        case s3 =>
          intro ρ W hb hc hf hr
          obtain ⟨r49, -⟩ := hr
          have e49 : ρ (.tmp 49) = .pointer (some ⟨g, 2, none⟩) := r49
          clear r49
          refine under_none rfl ?_
          exact soft_load e49 (HC2.out W (hbd.trans (hb.mono (by simp)))) rfl
        case s4 =>
          intro ρ W hb hc hf hr
          obtain ⟨r6, -⟩ := hr
          have e6 : ρ (.tmp 6) = .slice (some al) m capl := r6
          clear r6
          refine under_none rfl ?_
          exact ⟨e6, Below.refl _ _⟩
        case s5 =>
          intro ρ W hb hc hf hr
          obtain ⟨r7, -⟩ := hr
          have e7 : ρ (.tmp 7) = .int .i64 (k : Int) := r7
          clear r7
          refine under_none rfl ?_
          exact ⟨e7, Below.refl _ _⟩
        case s6 =>
          intro ρ W hb hc hf hr
          obtain ⟨r51, r52, -⟩ := hr
          have e51 : ρ (.tmp 51) = .slice (some al) m capl := r51
          clear r51
          have e52 : ρ (.tmp 52) = .int .i64 (k : Int) := r52
          clear r52
          refine under_none rfl ?_
          exact soft_index e51 e52 (run_idxInt W al m capl k hkm) rfl
        case s7 =>
          intro ρ W hb hc hf hr
          obtain ⟨r53, -⟩ := hr
          have e53 : ρ (.tmp 53) = .pointer (some (Addr.add al k)) := r53
          clear r53
          refine under_none rfl ?_
          exact soft_load e53 (HLO.out W (hbd.trans (hb.mono (by simp)))) rfl
        case s8 =>
          intro ρ W hb hc hf hr
          obtain ⟨r50, r54, -⟩ := hr
          have e50 : ρ (.tmp 50) = .slice (some ⟨bl, 0, none⟩) n n := r50
          clear r50
          have e54 : ρ (.tmp 54) = .int .i64 (lo : Int) := r54
          clear r54
          refine under_none rfl ?_
          exact soft_index e50 e54 (run_idxB W bl n n lo hlon) rfl
        case late =>
          intro p j o hj ho a W hsz h0 h1 hfr hou
          match p, hj with
          | 0, hj =>
            obtain rfl : 9 = j := Option.some.inj hj
            obtain rfl := Option.some.inj ho
            clear hj ho
            obtain ⟨hb, hhard⟩ := h0 rfl
            have e55 : a.eval (.tmp 55) = .pointer (some ⟨bl, lo, none⟩) := hhard 55 8 rfl rfl
            clear h0 h1 hhard hfr hou
            have hW := hbd.trans (hb.mono (by simp))
            refine late_store (x := .tmp 55) (y := .const (.bool false)) (w' := W.setCell ⟨bl, lo, none⟩ (.bool false)) rfl (by rw [e55]; exact run_storeB W _ _ _ ((HLF.out.kept (Kept.of hW []) (by simp)).cell hlon) ((HLF.out.kept (Kept.of hW []) (by simp)).frozen lo)) ⟨undef, rfl, W, hW, rfl⟩
          | q + 1, hj => cases hj
        case fin =>
          intro a w6 ha hP
          obtain ⟨W, hW, rfl⟩ := hP
          have k1 : Kept [bl] wr (W.setCell ⟨bl, lo, none⟩ (.bool false)) := (Kept.of hW _).setCell (by simp) _
          have HLF3 := Lib.hid ((HLF.out.kept (Kept.of hW []) (by simp)).set hlon (.bool false))
          obtain ⟨w6, hw6⟩ : ∃ w6, W.setCell ⟨bl, lo, none⟩ (.bool false) = w6 := ⟨_, rfl⟩
          rw [hw6] at k1 HLF3 ⊢
          have HK1 := Lib.hid k1
          clear k1 hw6 hW HC2 HLO
          simp only [List.foldl_cons, List.foldl_nil] at ha
          generalize a.tmps.getD 47 undef = v47 at ha
          generalize a.tmps.getD 48 undef = v48 at ha
          generalize a.tmps.getD 49 undef = v49 at ha
          generalize a.tmps.getD 50 undef = v50 at ha
          generalize a.tmps.getD 51 undef = v51 at ha
          generalize a.tmps.getD 52 undef = v52 at ha
          generalize a.tmps.getD 53 undef = v53 at ha
          generalize a.tmps.getD 54 undef = v54 at ha
          generalize a.tmps.getD 55 undef = v55 at ha
          simp only [Act.put, List.setIfInBounds_toArray, List.set_cons_succ, List.set_cons_zero] at ha
          subst ha
          go_wp2
          go_roundw
          case rel =>
            have k1 := HK1.out
            refine ⟨k + 1, by go_num, by omega, k1.blk HX.out (by simp; exact fun h => hp.2.2.2.2.2 h.symm), HKP2.out.kept k1 (by simp; exact hp.2.1), HWF.out.kept k1 (by simp; exact hp.2.2.1), ⟨fun i => if i = lo then false else Lf i, HLF3.out.congr fun i _ => by by_cases e : i = lo <;> simp [Plain.upd, e], HTK.out⟩, hx2.out.trans (k1.mono (by simp))⟩
          case measure => simp [RowKit.intOf]; omega
    · obtain rfl : m = k := by omega
      have HLZ := Lib.hid (show RowN wr bl 4 n (fun _ => .bool false) from HLF.out.congr fun i _ => by
        cases e : Lf i with
        | false => rfl
        | true =>
          obtain ⟨a1, a2⟩ := HLF2.out i e
          exact absurd ((d.loose_mem HOKD.out i).2 a1) (by rwa [← HM.out, List.take_length] at a2))
      have HKP := Lib.hid (show RowN wr bk 9 n (fun i => .string (str (kj7 d keep hurt 0 i))) from HKP.out.congr fun i _ => by rw [← HM.out]; rfl)
      clear HLF HLF2
      clear Lf
      go_wp2
      go_loopw [8] (fun s wr => ∃ j : Nat, s = .int .i64 (j : Int) ∧ j ≤ hn ∧ Blk wr g (box7 n bk bw bl d) 63 ∧ RowN wr bk 9 n (fun i => .string (str (kj7 d keep hurt j i))) ∧ RowN wr bw 9 n (fun i => .string (Wf i)) ∧ RowN wr bl 4 n (fun _ => .bool false) ∧ Kept [bk, bl] w1 wr) (fun s _ => hn - (RowKit.intOf s).toNat)
      case atStart => exact ⟨0, rfl, Nat.zero_le _, HX.out, HKP.out, HWF.out, HLZ.out, HKK.out⟩
      case round =>
        clear HX HKP HWF HLZ HKK
        obtain ⟨j, rfl, hj, hx, hkp, hwf, hlf, hkk⟩ := hrel
        have HX := Lib.hid hx
        have HKP := Lib.hid hkp
        have HWF := Lib.hid hwf
        have HLF := Lib.hid hlf
        have HKK := Lib.hid hkk
        have zr := hkk.size
        clear hx hkp hwf hlf hkk
        by_cases hjn : j < hn
        · have hjl : j < hurt.length := by rw [HHN.out]; exact hjn
          obtain ⟨ah, rfl, _, x0, x1, x2⟩ := at_hu (HLH.out.kept (HOH.out.mono (by simp)) HKK.out) j hjl
          have HKJ0 := Lib.hid (kj7_succ d keep hurt j hjl)
          have HXB0 := Lib.hid (HBI.out _ (List.getElem_mem hjl))
          obtain ⟨x, hxx⟩ : ∃ x, hurt[j] = x := ⟨_, rfl⟩
          rw [hxx] at x0 x1 x2 HKJ0 HXB0
          obtain ⟨xw, xa, xb⟩ := x
          simp only at x0 x1 x2
          have hB6 := (Below.refl wr.heap.size wr).alloc (Nat.le_refl _) (.cells #[.int .i64 xw, .int .i64 xa, .int .u32 (xb : Int)] 72)
          have HBO := Lib.hid (Blk.new wr #[.int .i64 xw, .int .i64 xa, .int .u32 (xb : Int)] 72)
          obtain ⟨wo, hwo⟩ : ∃ wo, wr.alloc (.cells #[.int .i64 xw, .int .i64 xa, .int .u32 (xb : Int)] 72) = wo := ⟨_, rfl⟩
          rw [hwo] at hB6 HBO
          obtain ⟨bo, hbo⟩ : ∃ b, wr.heap.size = b := ⟨_, rfl⟩
          have HX := Lib.hid (stay7 HX.out hB6)
          have HKP := Lib.hid (HKP.out.kept (Kept.of hB6 []) (by simp))
          have HWF := Lib.hid (HWF.out.kept (Kept.of hB6 []) (by simp))
          have HLF := Lib.hid (HLF.out.kept (Kept.of hB6 []) (by simp))
          have HKK := Lib.hid (HKK.out.trans (Kept.of hB6 _))
          simp only [hbo] at HBO
          have o0 : wo.cell? ⟨bo, 0, none⟩ = some (.int .i64 xw) := HBO.out.cell 0
          have o1 : wo.cell? ⟨bo, 1, none⟩ = some (.int .i64 xa) := HBO.out.cell 1
          clear hB6 hxx
          by_cases c1 : 0 ≤ xw
          case neg =>
            have t1 : decide (0 ≤ xw) = false := decide_eq_false c1
            have HKJ := Lib.hid (show kj7 d keep hurt (j + 1) = kj7 d keep hurt j by
              rw [HKJ0.out]; exact hurt_no d keep _ _ (.inl (by unfold Plain.Dv.hits; rw [decide_eq_false (fun h => c1 h.1)]; rfl)))
            go_wp2
            go_roundw
            case rel => exact ⟨j + 1, by go_num, by omega, HX.out, by rw [HKJ.out]; exact HKP.out, HWF.out, HLF.out, HKK.out⟩
            case measure => simp [RowKit.intOf]; omega
          obtain ⟨wh, rfl⟩ := Int.eq_ofNat_of_zero_le c1
          by_cases c2 : wh < m
          case neg =>
            have t1 : decide ((wh : Int) < (m : Int)) = false := decide_eq_false (by omega)
            have HKJ := Lib.hid (show kj7 d keep hurt (j + 1) = kj7 d keep hurt j by
              rw [HKJ0.out]; exact hurt_no d keep _ _ (.inl (by unfold Plain.Dv.hits; rw [decide_eq_false (fun h => c2 (by have h2 : (wh : Int) < (d.loose.length : Int) := h.2; rw [HM.out] at h2; omega))]; rfl)))
            go_wp2
            go_roundw
            case rel => exact ⟨j + 1, by go_num, by omega, HX.out, by rw [HKJ.out]; exact HKP.out, HWF.out, HLF.out, HKK.out⟩
            case measure => simp [RowKit.intOf]; omega
          have t2 : decide ((wh : Int) < (m : Int)) = true := decide_eq_true (by omega)
          by_cases c3 : wh < kn
          case neg =>
            have t1 : decide ((wh : Int) < (kn : Int)) = false := decide_eq_false (by omega)
            have HKJ := Lib.hid (show kj7 d keep hurt (j + 1) = kj7 d keep hurt j by
              rw [HKJ0.out]; exact hurt_no d keep _ _ (.inl (by unfold Plain.Dv.hits; rw [Int.toNat_natCast, List.getD_eq_getElem?_getD, List.getElem?_eq_none (by rw [HKN.out]; omega)]; simp)))
            go_wp2
            go_roundw
            case rel => exact ⟨j + 1, by go_num, by omega, HX.out, by rw [HKJ.out]; exact HKP.out, HWF.out, HLF.out, HKK.out⟩
            case measure => simp [RowKit.intOf]; omega
          have t3 : decide ((wh : Int) < (kn : Int)) = true := decide_eq_true (by omega)
          have hw1 : (wh : Int) < (kn : Int) := by omega
          have hkkl : wh < keep.length := by rw [HKN.out]; exact c3
          obtain ⟨adk, rfl, _, hkc0⟩ := (HLK.out.kept (HOK.out.mono (by simp)) HKK.out).at_ (k := wh) (by rw [bools_length]; exact hkkl)
          obtain ⟨bb, hbb⟩ : ∃ bb, keep[wh] = bb := ⟨_, rfl⟩
          have hkcell : wo.cell? (adk.add wh) = some (.bool bb) := by
            rw [hkc0]; simp [bools, hbb]
          have hge : keep.getD wh false = bb := by rw [List.getD_eq_getElem?_getD, List.getElem?_eq_getElem hkkl, Option.getD_some, hbb]
          have HGE := Lib.hid hge
          clear hkc0 hbb hge
          cases bb with
          | false =>
            have HKJ := Lib.hid (show kj7 d keep hurt (j + 1) = kj7 d keep hurt j by
              rw [HKJ0.out]; exact hurt_no d keep _ _ (.inl (by unfold Plain.Dv.hits; rw [Int.toNat_natCast, HGE.out]; simp)))
            go_wp2
            go_roundw
            case rel => exact ⟨j + 1, by go_num, by omega, HX.out, by rw [HKJ.out]; exact HKP.out, HWF.out, HLF.out, HKK.out⟩
            case measure => simp [RowKit.intOf]; omega
          | true =>
            by_cases c5 : 0 ≤ xa
            case neg =>
              have t1 : decide (0 ≤ xa) = false := decide_eq_false c5
              have HKJ := Lib.hid (show kj7 d keep hurt (j + 1) = kj7 d keep hurt j by
                rw [HKJ0.out]; exact hurt_no d keep _ _ (.inr (.inl (by show xa < 0; omega))))
              go_wp2
              go_roundw
              case rel => exact ⟨j + 1, by go_num, by omega, HX.out, by rw [HKJ.out]; exact HKP.out, HWF.out, HLF.out, HKK.out⟩
              case measure => simp [RowKit.intOf]; omega
            by_cases c6 : xa < 512
            case neg =>
              have t1 : decide (0 ≤ xa) = true := decide_eq_true c5
              have t4 : decide (xa < 512) = false := decide_eq_false c6
              have HKJ := Lib.hid (show kj7 d keep hurt (j + 1) = kj7 d keep hurt j by
                rw [HKJ0.out]; exact hurt_no d keep _ _ (.inr (.inr (by show 512 ≤ xa; omega))))
              go_wp2
              go_roundw
              case rel => exact ⟨j + 1, by go_num, by omega, HX.out, by rw [HKJ.out]; exact HKP.out, HWF.out, HLF.out, HKK.out⟩
              case measure => simp [RowKit.intOf]; omega
            obtain ⟨aa, rfl⟩ := Int.eq_ofNat_of_zero_le c5
            have t1 : decide ((aa : Int) < 512) = true := decide_eq_true c6
            have t4 : decide ((0 : Int) ≤ (aa : Int)) = true := decide_eq_true c5
            have haa : aa < 512 := by omega
            have hwm := c2
            have hwml : wh < d.loose.length := by rw [HM.out]; exact c2
            obtain ⟨lo, hlx⟩ : ∃ lo, d.loose[wh] = lo := ⟨_, rfl⟩
            have hlon : lo < n := by rw [← hlx, ← HN.out]; exact d.loose_lt wh hwml
            obtain ⟨al, rfl, _, _⟩ := (HLL.out.kept (HOL.out.mono (by simp)) HKK.out).at_ (k := wh) (by rw [nums_length]; exact hwml)
            have HLO := Lib.hid (show ∀ W, Below wo.heap.size wo W → _ from fun W (hW : Below wo.heap.size wo W) => run_loadI W (al.add wh) (lo : Int) (by
              obtain ⟨al2, e, _, h3⟩ := (HLL.out.kept (HOL.out.mono (by simp)) (HKK.out.trans (Kept.of hW _))).at_ (k := wh) (by rw [nums_length]; exact hwml)
              injection e with e
              subst e
              rw [h3]; simp [nums, hlx]))
            have hgd : d.loose.getD wh 0 = lo := by rw [List.getD_eq_getElem?_getD, List.getElem?_eq_getElem hwml, Option.getD_some, hlx]
            obtain ⟨X, hX⟩ : ∃ X, kj7 d keep hurt j lo = X := ⟨_, rfl⟩
            have HKJ := Lib.hid (show kj7 d keep hurt (j + 1) = Plain.upd (kj7 d keep hurt j) lo (Plain.turn X aa xb) by
              rw [HKJ0.out]
              unfold Plain.Dv.hurt1
              have hh : d.hits keep ⟨(wh : Int), (aa : Int), xb⟩ = true := by
                unfold Plain.Dv.hits
                rw [Int.toNat_natCast, HGE.out, decide_eq_true ⟨by show (0 : Int) ≤ (wh : Int); omega, by show (wh : Int) < (d.loose.length : Int); omega⟩]
                rfl
              rw [if_pos hh]
              show Plain.upd _ (d.loose.getD (wh : Int).toNat 0) (Plain.turn (kj7 d keep hurt j (d.loose.getD (wh : Int).toNat 0)) (aa : Int) xb) = _
              rw [Int.toNat_natCast, hgd, hX])
            have HXL := Lib.hid (show X.length = 64 by rw [← hX]; exact kj7_len d HOKD.out keep hurt j lo (by rw [HN.out]; exact hlon))
            have HXB := Lib.hid (show xb < 4294967296 from HXB0.out)
            have HXE := Lib.hid hX
            have hbd : Below wo.heap.size wo wo.drew := (Below.refl _ _).drew
            have HC0 := Lib.hid (fun (W : World) (hW : Below wo.heap.size wo W) => run_loadSl W ⟨g, 0, none⟩ (.slice (some ⟨bk, 0, none⟩) n n) ((stay7 HX.out hW).cell 0))
            have HO0 := Lib.hid (fun (W : World) (hW : Below wo.heap.size wo W) => run_loadI W ⟨bo, 0, none⟩ (wh : Int) ((stay7 HBO.out hW).cell 0))
            have HO1 := Lib.hid (fun (W : World) (hW : Below wo.heap.size wo W) => run_loadI W ⟨bo, 1, none⟩ (aa : Int) ((stay7 HBO.out hW).cell 1))
            have HO2 := Lib.hid (fun (W : World) (hW : Below wo.heap.size wo W) => run_loadU32 W ⟨bo, 2, none⟩ (xb : Int) ((stay7 HBO.out hW).cell 2))
            have HXS := Lib.hid (fun (W : World) (hW : Below wo.heap.size wo W) => run_loadS W ⟨bk, lo, none⟩ (str X) (by have := (HKP.out.kept (Kept.of hW []) (by simp)).cell hlon; rwa [HXE.out] at this))
            clear hlx hgd hX c6 c5 c3 c2
            go_wp2
            refine wp_late (by kernel_rfl) 132 [(100, [0]), (101, [100]), (102, [101]), (103, [102]), (104, [6]), (105, [9]), (106, [105]), (107, [104, 106]), (108, [107]), (109, [0]), (110, [109]), (111, [110]), (112, [111]), (113, [6]), (114, [9]), (115, [114]), (116, [113, 115]), (117, [116]), (118, [112, 117]), (119, [118]), (120, [9]), (121, [120]), (122, [9]), (123, [122]), (124, [119, 121, 123]), (125, [103, 108]), (1026, [125, 124])]
              [Fact.is (.pointer (some ⟨g, 0, none⟩)), Fact.is (.pointer (some ⟨g, 0, none⟩)), Fact.is (.pointer (some ⟨g, 0, none⟩)), Fact.is (.slice (some ⟨bk, 0, none⟩) n n), Fact.is (.slice (some al) m capl), Fact.is (.pointer (some ⟨bo, 0, none⟩)), Fact.is (.int .i64 (wh : Int)), Fact.is (.pointer (some (Addr.add al wh))), Fact.is (.int .i64 (lo : Int)), Fact.is (.pointer (some ⟨g, 0, none⟩)), Fact.is (.pointer (some ⟨g, 0, none⟩)), Fact.is (.pointer (some ⟨g, 0, none⟩)), Fact.is (.slice (some ⟨bk, 0, none⟩) n n), Fact.is (.slice (some al) m capl), Fact.is (.pointer (some ⟨bo, 0, none⟩)), Fact.is (.int .i64 (wh : Int)), Fact.is (.pointer (some (Addr.add al wh))), Fact.is (.int .i64 (lo : Int)), Fact.is (.pointer (some ⟨bk, lo, none⟩)), Fact.is (.string (str X)), Fact.is (.pointer (some ⟨bo, 1, none⟩)), Fact.is (.int .i64 (aa : Int)), Fact.is (.pointer (some ⟨bo, 2, none⟩)), Fact.is (.int .u32 (xb : Int)), Fact.is (.string (str (Plain.turn X aa xb))), Fact.is (.pointer (some ⟨bk, lo, none⟩)), default]
              [1, 1, 1, 1, 1, 1, 1, 1, 1, 1, 1, 1, 1, 1, 1, 1, 1, 1, 1, 1, 1, 1, 1, 1, 1, 1, 2] [26] [] [100, 101, 102, 103, 104, 105, 106, 107, 108, 109, 110, 111, 112, 113, 114, 115, 116, 117, 118, 119, 120, 121, 122, 123, 124, 125] ((fun _ _ w' => ∃ W, Below wo.heap.size wo W ∧ w' = W.setCell ⟨bk, lo, none⟩ (.string (str (Plain.turn X aa xb)))))
              (by kernel_rfl) (by kernel_rfl) rfl rfl ⟨?s0, ?s1, ?s2, ?s3, ?s4, ?s5, ?s6, ?s7, ?s8, ?s9, ?s10, ?s11, ?s12, ?s13, ?s14, ?s15, ?s16, ?s17, ?s18, ?s19, ?s20, ?s21, ?s22, ?s23, ?s24, ?s25, trivial⟩ ?late ?fin
            case s0 =>
              intro ρ W hb hc hf hr
              obtain ⟨r0, -⟩ := hr
              have e0 : ρ (.tmp 0) = .pointer (some ⟨g, 0, none⟩) := r0
              clear r0
              refine under_none rfl ?_
              exact ⟨e0, Below.refl _ _⟩
            case s1 =>
              intro ρ W hb hc hf hr
              obtain ⟨r100, -⟩ := hr
              have e100 : ρ (.tmp 100) = .pointer (some ⟨g, 0, none⟩) := r100
              clear r100
              refine under_none rfl ?_
              simp [execOp, e100, go_sem, softUpon, Fact.is, Below.refl]
            case s2 =>
              intro ρ W hb hc hf hr
              obtain ⟨r101, -⟩ := hr
              have e101 : ρ (.tmp 101) = .pointer (some ⟨g, 0, none⟩) := r101
              clear r101
              refine under_none rfl ?_
              exact soft_field e101 rfl (fun W => by go_simp)
            case s3 =>
              intro ρ W hb hc hf hr
              obtain ⟨r102, -⟩ := hr
              have e102 : ρ (.tmp 102) = .pointer (some ⟨g, 0, none⟩) := r102
              clear r102
              refine under_none rfl ?_
              exact soft_load e102 (HC0.out W (hbd.trans (hb.mono (by simp)))) rfl
            case s4 =>
              intro ρ W hb hc hf hr
              obtain ⟨r6, -⟩ := hr
              have e6 : ρ (.tmp 6) = .slice (some al) m capl := r6
              clear r6
              refine under_none rfl ?_
              exact ⟨e6, Below.refl _ _⟩
            case s5 =>
              intro ρ W hb hc hf hr
              obtain ⟨r9, -⟩ := hr
              have e9 : ρ (.tmp 9) = .pointer (some ⟨bo, 0, none⟩) := r9
              clear r9
              refine under_none rfl ?_
              exact soft_field e9 rfl (fun W => by go_simp)
            case s6 =>
              intro ρ W hb hc hf hr
              obtain ⟨r105, -⟩ := hr
              have e105 : ρ (.tmp 105) = .pointer (some ⟨bo, 0, none⟩) := r105
              clear r105
              refine under_none rfl ?_
              exact soft_load e105 (HO0.out W (hbd.trans (hb.mono (by simp)))) rfl
            case s7 =>
              intro ρ W hb hc hf hr
              obtain ⟨r104, r106, -⟩ := hr
              have e104 : ρ (.tmp 104) = .slice (some al) m capl := r104
              clear r104
              have e106 : ρ (.tmp 106) = .int .i64 (wh : Int) := r106
              clear r106
              refine under_none rfl ?_
              exact soft_index e104 e106 (run_idxInt W al m capl wh hwm) rfl
            case s8 =>
              intro ρ W hb hc hf hr
              obtain ⟨r107, -⟩ := hr
              have e107 : ρ (.tmp 107) = .pointer (some (Addr.add al wh)) := r107
              clear r107
              refine under_none rfl ?_
              exact soft_load e107 (HLO.out W (hbd.trans (hb.mono (by simp)))) rfl
            case s9 =>
              intro ρ W hb hc hf hr
              obtain ⟨r0, -⟩ := hr
              have e0 : ρ (.tmp 0) = .pointer (some ⟨g, 0, none⟩) := r0
              clear r0
              refine under_none rfl ?_
              exact ⟨e0, Below.refl _ _⟩
            case s10 =>
              intro ρ W hb hc hf hr
              obtain ⟨r109, -⟩ := hr
              have e109 : ρ (.tmp 109) = .pointer (some ⟨g, 0, none⟩) := r109
              clear r109
              refine under_none rfl ?_
              simp [execOp, e109, go_sem, softUpon, Fact.is, Below.refl]
            case s11 =>
              intro ρ W hb hc hf hr
              obtain ⟨r110, -⟩ := hr
              have e110 : ρ (.tmp 110) = .pointer (some ⟨g, 0, none⟩) := r110
              clear r110
              refine under_none rfl ?_
              exact soft_field e110 rfl (fun W => by go_simp)
            case s12 =>
              intro ρ W hb hc hf hr
              obtain ⟨r111, -⟩ := hr
              have e111 : ρ (.tmp 111) = .pointer (some ⟨g, 0, none⟩) := r111
              clear r111
              refine under_none rfl ?_
              exact soft_load e111 (HC0.out W (hbd.trans (hb.mono (by simp)))) rfl
            case s13 =>
              intro ρ W hb hc hf hr
              obtain ⟨r6, -⟩ := hr
              have e6 : ρ (.tmp 6) = .slice (some al) m capl := r6
              clear r6
              refine under_none rfl ?_
              exact ⟨e6, Below.refl _ _⟩
            case s14 =>
              intro ρ W hb hc hf hr
              obtain ⟨r9, -⟩ := hr
              have e9 : ρ (.tmp 9) = .pointer (some ⟨bo, 0, none⟩) := r9
              clear r9
              refine under_none rfl ?_
              exact soft_field e9 rfl (fun W => by go_simp)
            case s15 =>
              intro ρ W hb hc hf hr
              obtain ⟨r114, -⟩ := hr
              have e114 : ρ (.tmp 114) = .pointer (some ⟨bo, 0, none⟩) := r114
              clear r114
              refine under_none rfl ?_
              exact soft_load e114 (HO0.out W (hbd.trans (hb.mono (by simp)))) rfl
            case s16 =>
              intro ρ W hb hc hf hr
              obtain ⟨r113, r115, -⟩ := hr
              have e113 : ρ (.tmp 113) = .slice (some al) m capl := r113
              clear r113
              have e115 : ρ (.tmp 115) = .int .i64 (wh : Int) := r115
              clear r115
              refine under_none rfl ?_
              exact soft_index e113 e115 (run_idxInt W al m capl wh hwm) rfl
            case s17 =>
              intro ρ W hb hc hf hr
              obtain ⟨r116, -⟩ := hr
              have e116 : ρ (.tmp 116) = .pointer (some (Addr.add al wh)) := r116
              clear r116
              refine under_none rfl ?_
              exact soft_load e116 (HLO.out W (hbd.trans (hb.mono (by simp)))) rfl
            case s18 =>
              intro ρ W hb hc hf hr
              obtain ⟨r112, r117, -⟩ := hr
              have e112 : ρ (.tmp 112) = .slice (some ⟨bk, 0, none⟩) n n := r112
              clear r112
              have e117 : ρ (.tmp 117) = .int .i64 (lo : Int) := r117
              clear r117
              refine under_none rfl ?_
              exact soft_index e112 e117 (run_idxS W bk n n lo hlon) rfl
            case s19 =>
              intro ρ W hb hc hf hr
              obtain ⟨r118, -⟩ := hr
              have e118 : ρ (.tmp 118) = .pointer (some ⟨bk, lo, none⟩) := r118
              clear r118
              refine under_none rfl ?_
              exact soft_load e118 (HXS.out W (hbd.trans (hb.mono (by simp)))) rfl
            case s20 =>
              intro ρ W hb hc hf hr
              obtain ⟨r9, -⟩ := hr
              have e9 : ρ (.tmp 9) = .pointer (some ⟨bo, 0, none⟩) := r9
              clear r9
              refine under_none rfl ?_
              exact soft_field e9 rfl (fun W => by go_simp)
            case s21 =>
              intro ρ W hb hc hf hr
              obtain ⟨r120, -⟩ := hr
              have e120 : ρ (.tmp 120) = .pointer (some ⟨bo, 1, none⟩) := r120
              clear r120
              refine under_none rfl ?_
              exact soft_load e120 (HO1.out W (hbd.trans (hb.mono (by simp)))) rfl
            case s22 =>
              intro ρ W hb hc hf hr
              obtain ⟨r9, -⟩ := hr
              have e9 : ρ (.tmp 9) = .pointer (some ⟨bo, 0, none⟩) := r9
              clear r9
              refine under_none rfl ?_
              exact soft_field e9 rfl (fun W => by go_simp)
            case s23 =>
              intro ρ W hb hc hf hr
              obtain ⟨r122, -⟩ := hr
              have e122 : ρ (.tmp 122) = .pointer (some ⟨bo, 2, none⟩) := r122
              clear r122
              refine under_none rfl ?_
              exact soft_load e122 (HO2.out W (hbd.trans (hb.mono (by simp)))) rfl
            case s24 =>
              intro ρ W hb hc hf hr
              obtain ⟨r119, r121, r123, -⟩ := hr
              have e119 : ρ (.tmp 119) = .string (str X) := r119
              clear r119
              have e121 : ρ (.tmp 121) = .int .i64 (aa : Int) := r121
              clear r121
              have e123 : ρ (.tmp 123) = .int .u32 (xb : Int) := r123
              clear r123
              refine under_none rfl ?_
              exact soft_call3 hf e119 e121 e123 (turned_any W X aa xb HXL.out haa HXB.out) rfl (by kernel_rfl) below_is
            case s25 =>
              intro ρ W hb hc hf hr
              obtain ⟨r103, r108, -⟩ := hr
              have e103 : ρ (.tmp 103) = .slice (some ⟨bk, 0, none⟩) n n := r103
              clear r103
              have e108 : ρ (.tmp 108) = .int .i64 (lo : Int) := r108
              clear r108
              refine under_none rfl ?_
              exact soft_index e103 e108 (run_idxS W bk n n lo hlon) rfl
            case late =>
              intro p j o hj ho a W hsz h0 h1 hfr hou
              match p, hj with
              | 0, hj =>
                obtain rfl : 26 = j := Option.some.inj hj
                obtain rfl := Option.some.inj ho
                clear hj ho
                obtain ⟨hb, hhard⟩ := h0 rfl
                have e125 : a.eval (.tmp 125) = .pointer (some ⟨bk, lo, none⟩) := hhard 125 25 rfl rfl
                have e124 : a.eval (.tmp 124) = .string (str (Plain.turn X aa xb)) := hhard 124 24 rfl rfl
                clear h0 h1 hhard hfr hou
                have hW := hbd.trans (hb.mono (by simp))
                refine late_store (x := .tmp 125) (y := .tmp 124) (w' := W.setCell ⟨bk, lo, none⟩ (.string (str (Plain.turn X aa xb)))) rfl (by rw [e125, e124]; exact run_storeS W _ _ _ ((HKP.out.kept (Kept.of hW []) (by simp)).cell hlon) ((HKP.out.kept (Kept.of hW []) (by simp)).frozen lo)) ⟨undef, rfl, W, hW, rfl⟩
              | q + 1, hj => cases hj
            case fin =>
              intro a w6 ha hP
              obtain ⟨W, hW, rfl⟩ := hP
              have k1 : Kept [bk] wo (W.setCell ⟨bk, lo, none⟩ (.string (str (Plain.turn X aa xb)))) := (Kept.of hW _).setCell (by simp) _
              have HKP3 := Lib.hid ((HKP.out.kept (Kept.of hW []) (by simp)).set hlon (.string (str (Plain.turn X aa xb))))
              obtain ⟨w6, hw6⟩ : ∃ w6, W.setCell ⟨bk, lo, none⟩ (.string (str (Plain.turn X aa xb))) = w6 := ⟨_, rfl⟩
              rw [hw6] at k1 HKP3 ⊢
              have HK1 := Lib.hid k1
              clear k1 hw6 hW HC0 HLO HO0 HO1 HO2 HXS
              simp only [List.foldl_cons, List.foldl_nil] at ha
              generalize a.tmps.getD 100 undef = v100 at ha
              generalize a.tmps.getD 101 undef = v101 at ha
              generalize a.tmps.getD 102 undef = v102 at ha
              generalize a.tmps.getD 103 undef = v103 at ha
              generalize a.tmps.getD 104 undef = v104 at ha
              generalize a.tmps.getD 105 undef = v105 at ha
              generalize a.tmps.getD 106 undef = v106 at ha
              generalize a.tmps.getD 107 undef = v107 at ha
              generalize a.tmps.getD 108 undef = v108 at ha
              generalize a.tmps.getD 109 undef = v109 at ha
              generalize a.tmps.getD 110 undef = v110 at ha
              generalize a.tmps.getD 111 undef = v111 at ha
              generalize a.tmps.getD 112 undef = v112 at ha
              generalize a.tmps.getD 113 undef = v113 at ha
              generalize a.tmps.getD 114 undef = v114 at ha
              generalize a.tmps.getD 115 undef = v115 at ha
              generalize a.tmps.getD 116 undef = v116 at ha
              generalize a.tmps.getD 117 undef = v117 at ha
              generalize a.tmps.getD 118 undef = v118 at ha
              generalize a.tmps.getD 119 undef = v119 at ha
              generalize a.tmps.getD 120 undef = v120 at ha
              generalize a.tmps.getD 121 undef = v121 at ha
              generalize a.tmps.getD 122 undef = v122 at ha
              generalize a.tmps.getD 123 undef = v123 at ha
              generalize a.tmps.getD 124 undef = v124 at ha
              generalize a.tmps.getD 125 undef = v125 at ha
              simp only [Act.put, List.setIfInBounds_toArray, List.set_cons_succ, List.set_cons_zero] at ha
              subst ha
              go_wp2
              go_roundw
              case rel =>
                have k1 := HK1.out
                refine ⟨j + 1, by go_num, by omega, k1.blk HX.out (by simp; exact fun h => hp.2.2.2.1 h.symm), HKP3.out.congr fun i _ => ?_, HWF.out.kept k1 (by simp; exact fun h => hp.1 h.symm), HLF.out.kept k1 (by simp; exact fun h => hp.2.1 h.symm), HKK.out.trans (k1.mono (by simp))⟩
                rw [HKJ.out]
                unfold Plain.upd
                by_cases e : i = lo
                · rw [if_pos e]; try dsimp only
                  rw [if_pos e]
                · rw [if_neg e]; try dsimp only
                  rw [if_neg e]
              case measure => simp [RowKit.intOf]; omega
        · obtain rfl : hn = j := by omega
          have c3 : wr.cell? ⟨g, 3, none⟩ = some (.bool d.down) := HX.out.cell 3
          have c6 : wr.cell? ⟨g, 6, none⟩ = some (.bool d.cut) := HX.out.cell 6
          have f3 := HX.out.frozen 3
          have f6 := HX.out.frozen 6
          have HS := Lib.hid ((HX.out.set 3 (.bool false)).set 6 (.bool false))
          have k1 : Kept [g] wr ((wr.setCell ⟨g, 3, none⟩ (.bool false)).setCell ⟨g, 6, none⟩ (.bool false)) := ((Kept.refl _ _).setCell (by simp) _).setCell (by simp) _
          have HK1 := Lib.hid k1
          clear k1
          go_wp2
          go_returns
          have k1 := HK1.out
          refine ⟨rfl, ⟨d.boot_ok HOKD.out keep hurt, ?_, ?_, ⟨Wf, ?_, fun i s hs => by cases hs⟩, ?_, hp⟩, (Kept.of HB1.out _).trans ((HKK.out.mono (by simp)).trans (k1.mono (by simp)))⟩
          · show Blk _ g #[.slice (some ⟨bk, 0, none⟩) d.n d.n, .slice (some ⟨bw, 0, none⟩) d.n d.n, .slice (some ⟨bl, 0, none⟩) d.n d.n, .bool false, .int .i64 (d.done : Int), .int .i64 (d.left : Int), .bool false] 63
            rw [HN.out]
            simpa [box7] using HS.out
          · show RowN _ bk _ d.n (fun i => .string (str (hurt.foldl (d.hurt1 keep) (d.bk keep d.loose.length) i)))
            rw [HN.out]
            exact (HKP.out.kept k1 (by simp; exact hp.2.2.2.1)).congr fun i _ => by unfold kj7; rw [← HHN.out, List.take_length]
          · show RowN _ bw _ d.n _
            rw [HN.out]
            exact HWF.out.kept k1 (by simp; exact hp.2.2.2.2.1)
          · show RowN _ bl _ d.n (fun _ => .bool false)
            rw [HN.out]
            exact HLF.out.kept k1 (by simp; exact hp.2.2.2.2.2)
end Go.Proofs.YtehnhjnkbclnlaaGreatDoor

