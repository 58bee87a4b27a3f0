/-
  P8.5, CellZero: for all numbers, places and lengths the law returns true: a sector of 0 alone has no bytes; what has another length is no sector. No condition but that the program's table starts as its text lays it.
-/
import Derived.Test.YtjmjinplihlhcaaDoorHd8
import Derived.Test.YtjmjinplihlhcaaDoorLaid2
namespace Go.Proofs.YtjmjinplihlhcaaDoor.cellZero
open Go.ChangeShapes Go.WideShapes Go.ChangeAt Go.RowKit

/-- make([]byte, n), under a name -/
theorem make_at (u : World) (n : Nat) (h : n ≤ 1099511627776) (i : Int) (hi : i = (n : Int)) : ∃ Z, (Instr.makeSlice 22 (.int .i64 i) (.int .i64 i)).run Tryd.prog u = .ok (.slice (some ⟨u.heap.size, 0, none⟩) n n) (u.alloc (.cells Z 5)) ∧ Lies (u.alloc (.cells Z 5)) (some ⟨u.heap.size, 0, none⟩) (cells (List.replicate n 0)) := by
  subst hi
  refine ⟨_, make_bytes u n h, lies_lit _ _ _ _ ?_⟩
  unfold cells
  rw [List.map_replicate]
  rfl

set_option maxHeartbeats 1000000 in
set_option maxRecDepth 100000 in
theorem walkN (w : World) (hT : Tab w) (q p : Int) (n : Nat) (hn : n ≤ 255) :
    Calls Tryd.prog 7 #[.int .i64 q, .int .i64 p, .int .u8 (n : Int)] w fun e w' => e = .returned (.bool true) ∧ Below w.heap.size w w' := by
  have HT := Lib.hid hT
  clear hT
  obtain ⟨m, hm, hm64, hmb⟩ : ∃ m : Nat, (if n = 64 then 65 else n) = m ∧ m ≠ 64 ∧ m ≤ 255 := by
    by_cases h : n = 64
    · exact ⟨65, by rw [if_pos h], by omega, by omega⟩
    · exact ⟨n, by rw [if_neg h], h, hn⟩
  go_enter Tryd.func7, Tryd.ntmps7
  go_wp2_with fail
  refine (head_any _ HT.out).mono ?_
  rintro e w1 ⟨rfl, hb1⟩
  have T1 := Lib.hid (HT.out.below hb1 (Nat.le_refl _))
  obtain ⟨Z, hmk, hl⟩ := make_at w1 64 (by omega) 64 rfl
  have HL := Lib.hid hl
  clear hl
  go_wp2_with fail
  refine (get_walk q p _ _ 64 (List.replicate 64 0) _ rfl HL.out (T1.out.alloc _)).mono ?_
  rintro e w2 ⟨hb2, hx⟩
  rw [Ce.nb_zero] at hx
  have hb2w : Below w.heap.size w w2 := hb1.trans ((((Below.refl _ _).alloc (Nat.le_refl _) _).trans (hb2.mono (by simp))).mono hb1.size)
  have T2 := Lib.hid (HT.out.below hb2w (Nat.le_refl _))
  obtain ⟨Z2, hmk2, hl2⟩ := make_at w2 m (by omega) _ rfl
  have HL2 := Lib.hid hl2
  have HRL := Lib.hid (List.length_replicate (n := m) (a := (0 : UInt8)))
  generalize List.replicate m (0 : UInt8) = zs at *
  have HG := Lib.hid (cget_no q p (some ⟨w2.heap.size, 0, none⟩) m m zs _ HRL.out (Ce.ok_len (by rw [HRL.out]; exact hm64)) HL2.out (T2.out.alloc (.cells Z2 5)))
  have HB2 := Lib.hid hb2w
  clear hl2 hmk hb2 hb2w
  obtain ⟨A, b, rfl⟩ : ∃ (A : Option Addr) (b : Bool), e = .returned (.tuple #[.slice A 0 0, .bool b]) := by
    rcases hx with ⟨_, g, k, hk, h, _⟩ | ⟨_, h⟩
    · rw [hk] at h; exact ⟨_, _, h⟩
    · exact ⟨_, _, h⟩
  clear hx
  by_cases h64 : n = 64
  · rw [if_pos h64] at hm
    subst h64 hm
    rw [show ((65 : Nat) : Int) = 65 from rfl] at hmk2
    go_wp2_with fail
    refine HG.out.mono ?_
    rintro e w3 ⟨rfl, hb3⟩
    go_wp2
    go_ret
    exact ⟨rfl, HB2.out.trans ((((Below.refl _ _).alloc (Nat.le_refl _) _).trans (hb3.mono (by simp))).mono HB2.out.size)⟩
  · rw [if_neg h64] at hm
    subst hm
    have hne : ((n : Int) == 64) = false := by simp; omega
    go_wp2_with fail
    refine HG.out.mono ?_
    rintro e w3 ⟨rfl, hb3⟩
    go_wp2
    go_ret
    exact ⟨rfl, HB2.out.trans ((((Below.refl _ _).alloc (Nat.le_refl _) _).trans (hb3.mono (by simp))).mono HB2.out.size)⟩

theorem walk (w : World) (hT : Tab w) (q : Int) (_ : -9223372036854775808 ≤ q ∧ q ≤ 9223372036854775807) (p : Int) (_ : -9223372036854775808 ≤ p ∧ p ≤ 9223372036854775807) (c : Int) (hc : 0 ≤ c ∧ c ≤ 255) :
    Calls Tryd.prog 7 #[.int .i64 q, .int .i64 p, .int .u8 c] w fun e w' => e = .returned (.bool true) ∧ Below w.heap.size w w' := by
  obtain ⟨n, rfl⟩ := Int.eq_ofNat_of_zero_le hc.1
  exact walkN w hT q p n (by omega)


set_option maxRecDepth 100000 in
theorem lifted (os : Os) (started : os.Started) (H : Type) (enc : TypeId × Value → H) :
    ReturnsInHanded {} Tryd.checked os 7 .any (fun w args => (Rows.cellZeroSpec.pre enc Tryd.prog Tryd.f7 [] false w args ∧ laidMetH Tryd.prog laidHere w) ∧ sizedMet enc Tryd.prog Tryd.f7 (OpenSpec.ofChange Rows.cellZeroSpec) false w args) (Rows.cellZeroSpec.post enc Tryd.prog Tryd.f7 false true false false) := by
  refine returnsInHanded_of_change_and (C := Tryd.checked) (X := fun w _ => laidMetH Tryd.prog laidHere w) (fun _ _ _ hh h => h.of_heap hh) own started (by kernel_rfl) Tryd.func7
    (ChangeSpec.witness_shaped (enc := enc) (C := Tryd.checked) (os := os) (X := fun w _ => laidMetH Tryd.prog laidHere w) false (World.doorLaid Tryd.prog doorSteps os) #[.int .i64 0, .int .i64 0, .int .u8 0] 8 rfl (World.shaped_of_RefB (by kernel_rfl) (by kernel_rfl)) (by kernel_rfl) (by kernel_rfl) (by kernel_rfl) (door_met os _)) ?_
  intro W base args ds gs before hval0 hW _ _ hL _
  have hval : ∀ (j : Nat) t v, Tryd.f7.params[j]? = some t → args[j]? = some v → Value.okWide Tryd.prog W .any base t v := hval0
  have hfin := fun W' => law_post (enc := enc) (P := Tryd.prog) (f := Tryd.f7) (s := Rows.cellZeroSpec) (tb := 4) (W := W) (W' := W') (args := args) (ds := ds) (gs := gs) (before := before) laidOut rfl (by kernel_rfl) Tryd.underlying4 (by kernel_rfl) (fun xs h => by rw [Tryd.params7] at h; match xs, h with | [_, _, _], _ => rfl) hW
  obtain ⟨p, q, hA0, hV, rfl, hfz, hnd⟩ := hW
  have hA : DataW.TrodAll enc Tryd.prog W 0 (fun _ => true) true Tryd.f7.params.toList args.toList ds p := hA0
  rw [Tryd.params7] at hA hval
  obtain ⟨v0, vs0, d0, ds0, p0, q0, hargs, rfl, rfl, h0, r0⟩ := trodAll_cons hA
  obtain ⟨v1, vs1, d1, ds1, p1, q1, rfl, rfl, rfl, h1, r1⟩ := trodAll_cons r0
  obtain ⟨v2, vs2, d2, ds2, p2, q2, rfl, rfl, rfl, h2, r2⟩ := trodAll_cons r1
  obtain ⟨rfl, rfl, rfl⟩ := trodAll_nil r2
  obtain rfl : args = #[v0, v1, v2] := by cases args; simp_all
  obtain ⟨a0, rfl, rfl, rfl, w0⟩ := open_int Tryd.underlying2 (hval 0 2 v0 rfl rfl) h0
  obtain ⟨a1, rfl, rfl, rfl, w1⟩ := open_int Tryd.underlying3 (hval 1 3 v1 rfl rfl) h1
  obtain ⟨a2, rfl, rfl, rfl, w2⟩ := open_int Tryd.underlying5 (hval 2 5 v2 rfl rfl) h2
  refine (walk W (of_laid hL) a0 (bounds_i64 w0) a1 (bounds_i64 w1) a2 (bounds_u8 w2)).mono fun e W' ⟨he, hg⟩ => ?_
  subst he
  exact ⟨_, rfl, hfin W' hg⟩

theorem proved : Rows.CellZeroSaid :=
  OpenClaim.holds_of_wide 7 Tryd.f7 rfl rfl rfl rfl rfl rfl rfl ⟨rfl, rfl, rfl, rfl, rfl⟩ rfl rfl rfl rfl rfl (by kernel_rfl) Tryd.func7 (by kernel_rfl)
    (of_decide_eq_true (by kernel_rfl)) (by unfold Func.isWrapper; first | (rw [if_pos (by decide +kernel)]; kernel_rfl) | (rw [if_neg (by decide +kernel)]; exact ⟨rfl, rfl⟩))
    (fun os started H enc _ => lifted os started H enc)

set_option maxRecDepth 100000 in
theorem card : Rows.CellZeroCardSaid :=
  Claim7.holds_tied_plain_at .later [] laidKindsHere true _ false
    proved (fun _ h => by cases h) (by kernel_rfl) (fun _ h => by cases h) cellZero_row_tie rfl ⟨rfl, rfl⟩ (by kernel_rfl) rfl
    (fun f fn hf hfn => by
      obtain rfl : f = 7 := Option.some.inj ((show Tryd.prog.funcNamed "turntable/turntablelaw08.CellZero" = some 7 by kernel_rfl).symm.trans hf) |>.symm
      obtain rfl : fn = Tryd.f7 := (Option.some.inj (Tryd.func7.symm.trans hfn)).symm
      exact ⟨by kernel_rfl, fun j t ht => by
        rw [Tryd.params7] at ht
        have hm : t ∈ [2, 3, 5] := Array.mem_def.1 (Array.mem_of_getElem? ht)
        have hall : ([2, 3, 5].all fun u => !Tryd.prog.wantsStandIn u) = true := by kernel_rfl
        exact (show Tryd.prog.wantsStandIn t = false by simpa using List.all_eq_true.1 hall t hm)⟩)
    (by kernel_rfl)
#print axioms card
end Go.Proofs.YtjmjinplihlhcaaDoor.cellZero
