/-
  P12.1, FrameSize: for all numbers the law returns true: a frame is as long as its body, and one byte, or two, more; a longer body's is longer. No condition.
-/
import Derived.Test.YtchfiekepjndeaaHd12
import Derived.Lib.SmallJoins
namespace Go.Proofs.Ytchfiekepjndeaa.frameSize
open Go.ChangeShapes Go.WideShapes Go.ChangeAt Go.RowKit

theorem make_bytes12 (u : World) (n : Nat) (h : n ≤ 1099511627776) : (Instr.makeSlice 22 (.int .i64 (n : Int)) (.int .i64 (n : Int))).run Try.prog u =
      .ok (.slice (some ⟨u.heap.size, 0, none⟩) n n) (u.alloc (.cells (List.replicate n (.int .u8 0)).toArray 5)) := by
  obtain ⟨i0, hi, hz0, hz1, hz2⟩ := info_parts infoU8
  have h := run_make (P := Try.prog) u 22 5 i0 (.int .u8 0) Try.underlying22 hi hz0 .i64 .i64 (n : Int) (n : Int) (by omega) (by omega) (by rw [hz2]; omega) (by omega)
  rw [Int.toNat_natCast] at h
  rw [← toList_madeCells_one]
  simpa [hz1, Value.cells] using h
/-- make([]byte, n), under a name -/
theorem make_at (u : World) (n : Nat) (h : n ≤ 3600) (i : Int) (hi : i = (n : Int)) : ∃ Z, (Instr.makeSlice 22 (.int .i64 i) (.int .i64 i)).run Try.prog u = .ok (.slice (some ⟨u.heap.size, 0, none⟩) n n) (u.alloc (.cells Z 5)) ∧ Lies (u.alloc (.cells Z 5)) (some ⟨u.heap.size, 0, none⟩) (cells (List.replicate n 0)) := by
  subst hi
  refine ⟨_, make_bytes12 u n (by omega), lies_mark _ _ _ _ ?_⟩
  unfold cells
  rw [List.map_replicate]
  rfl
theorem size_of (n : Nat) (h1 : 1 ≤ n) (h2 : n ≤ 3600) : Fra.size (n : Int) = n + if n < 128 then 1 else 2 := by
  unfold Fra.size
  rw [if_pos (by omega), Fra.head_is n h2]
  simp only [Int.toNat_natCast]
  omega

set_option maxHeartbeats 2000000 in
set_option maxRecDepth 100000 in
theorem walkN (w : World) (x y : Nat) (hx : x ≤ 65535) (hy : y ≤ 65535) :
    Calls Try.prog 7 #[.int .u16 (x : Int), .int .u16 (y : Int)] w fun e w' => e = .returned (.bool true) ∧ Below w.heap.size w w' := by
  obtain ⟨a, ha⟩ : ∃ a, 1 + x % 3600 = a := ⟨_, rfl⟩
  obtain ⟨b, hb⟩ : ∃ b, 1 + y % 3600 = b := ⟨_, rfl⟩
  have ha1 : 1 ≤ a ∧ a ≤ 3600 := by omega
  have hb1 : 1 ≤ b ∧ b ≤ 3600 := by omega
  have hea : (1 : Int) + (x : Int) % 3600 = (a : Int) := by omega
  have heb : (1 : Int) + (y : Int) % 3600 = (b : Int) := by omega
  have hsa := size_of a ha1.1 ha1.2
  have hsb := size_of b hb1.1 hb1.2
  have HSA := Lib.hid (fsize_any (a : Int))
  have HSB := Lib.hid (fsize_any (b : Int))
  have HLP := Lib.hid (show (Fra.put (List.replicate a 0)).length = Fra.size (a : Int) by rw [Fra.put_length, List.length_replicate])
  obtain ⟨sa, hsa'⟩ : ∃ sa, Fra.size (a : Int) = sa := ⟨_, rfl⟩
  obtain ⟨sb, hsb'⟩ : ∃ sb, Fra.size (b : Int) = sb := ⟨_, rfl⟩
  rw [hsa'] at HSA HLP hsa
  rw [hsb'] at HSB hsb
  have hmono : a < b → sa < sb := by intro h; rw [hsa, hsb]; split <;> split <;> omega
  clear hsa' hsb' hsb ha hb
  have HSAE := Lib.hid hsa
  have HMO := Lib.hid hmono
  clear hsa hmono
  rcases Nat.lt_or_ge 127 a with h127 | h127 <;> rcases Nat.lt_or_ge a b with hab | hab
  all_goals
    first
      | have d1 : ((sa : Int) == (a : Int) + 2) = true := by rw [beq_iff_eq]; have := HSAE.out; rw [if_neg (by omega)] at this; omega
      | have d1 : ((sa : Int) == (a : Int) + 1) = true := by rw [beq_iff_eq]; have := HSAE.out; rw [if_pos (by omega)] at this; omega
    first
      | have hlt : sa < sb := HMO.out hab
      | skip
    go_enter Try.func7, Try.ntmps7
    go_wp2_with fail
    refine (head12_any w).mono ?_
    rintro e w1 ⟨rfl, c1⟩
    have HC1 := Lib.hid c1
    clear c1
    go_wp2_with fail
    refine (HSA.out _).mono ?_
    rintro e w2 ⟨rfl, rfl⟩
    go_wp2_with fail
    refine (HSB.out _).mono ?_
    rintro e w2 ⟨rfl, rfl⟩
    obtain ⟨Z, hmk, hlz⟩ := make_at w1 a ha1.2 (a : Int) rfl
    have HFP := Lib.hid (fput_any (some ⟨w1.heap.size, 0, none⟩) a a (List.replicate a 0) (w1.alloc (.cells Z 5)) (List.length_replicate ..) hlz)
    have HCA := Lib.hid (HC1.out.alloc HC1.out.size (.cells Z 5))
    have hpl := HLP.out
    generalize Fra.put (List.replicate a 0) = pb at *
    clear hlz hpl
    go_wp2_with fail
    refine HFP.out.mono ?_
    rintro e w3 hM
    obtain ⟨v, rfl, ho, c3⟩ := hM.up HCA.out
    obtain ⟨A, cp, rfl, -, -, -, -⟩ := own_form ho
    rw [HLP.out]
    have HC3 := Lib.hid c3
    clear ho c3 hM
    go_wp2
    go_ret
    exact ⟨rfl, HC3.out⟩

theorem walk (w : World) (x : Int) (hx : 0 ≤ x ∧ x ≤ 65535) (y : Int) (hy : 0 ≤ y ∧ y ≤ 65535) :
    Calls Try.prog 7 #[.int .u16 x, .int .u16 y] w fun e w' => e = .returned (.bool true) ∧ Below w.heap.size w w' := by
  obtain ⟨n, rfl⟩ := Int.eq_ofNat_of_zero_le hx.1
  obtain ⟨m, rfl⟩ := Int.eq_ofNat_of_zero_le hy.1
  exact walkN w n m (by omega) (by omega)


set_option maxRecDepth 100000 in
theorem lifted (os : Os) (started : os.Started) (H : Type) (enc : TypeId × Value → H) :
    ReturnsInHanded {} Try.checked os 7 .any (Rows.frameSizeSpec.pre6 enc Try.prog Try.f7 Rows.frameSizeRow.domain false) (Rows.frameSizeSpec.post enc Try.prog Try.f7 false true false false) := by
  refine returnsInHanded_of_change (C := Try.checked) own started (by kernel_rfl) Try.func7
    (ChangeSpec.witness6 (enc := enc) (C := Try.checked) false ⟨#[], #[.int .u16 0, .int .u16 0], []⟩ 8 (by kernel_rfl) (by kernel_rfl) (by kernel_rfl) (by kernel_rfl)) ?_
  intro W base args ds gs before hval0 hW hcnd _
  have hval : ∀ (j : Nat) t v, Try.f7.params[j]? = some t → args[j]? = some v → Value.okWide Try.prog W .any base t v := hval0
  have hfin := fun W' => law_post (enc := enc) (P := Try.prog) (f := Try.f7) (s := Rows.frameSizeSpec) (tb := 4) (W := W) (W' := W') (args := args) (ds := ds) (gs := gs) (before := before) laidOut rfl (by kernel_rfl) Try.underlying4 (by kernel_rfl) (fun xs h => by rw [Try.params7] at h; match xs, h with | [_, _], _ => rfl) hW
  obtain ⟨p, q, hA0, hV, rfl, hfz, hnd⟩ := hW
  have hA : DataW.TrodAll enc Try.prog W 0 (fun _ => true) true Try.f7.params.toList args.toList ds p := hA0
  rw [Try.params7] at hA hval
  obtain ⟨v0, vs0, d0, ds0, p0, q0, hargs, rfl, rfl, h0, r0⟩ := trodAll_cons hA
  obtain ⟨v1, vs1, d1, ds1, p1, q1, rfl, rfl, rfl, h1, r1⟩ := trodAll_cons r0
  obtain ⟨rfl, rfl, rfl⟩ := trodAll_nil r1
  obtain rfl : args = #[v0, v1] := by cases args; simp_all
  obtain ⟨a0, rfl, rfl, rfl, w0⟩ := open_int Try.underlying37 (hval 0 37 v0 rfl rfl) h0
  obtain ⟨a1, rfl, rfl, rfl, w1⟩ := open_int Try.underlying37 (hval 1 37 v1 rfl rfl) h1
  refine (walk W a0 (bounds_u16 w0) a1 (bounds_u16 w1)).mono fun e W' ⟨he, hg⟩ => ?_
  subst he
  exact ⟨_, rfl, hfin W' hg⟩

theorem proved : Rows.FrameSizeSaid :=
  OpenClaim.holds_of_wide 7 Try.f7 rfl rfl rfl rfl rfl rfl rfl ⟨rfl, rfl, rfl, rfl, rfl⟩ rfl rfl rfl rfl rfl (by kernel_rfl) Try.func7 (by kernel_rfl)
    (of_decide_eq_true (by kernel_rfl)) (by unfold Func.isWrapper; first | (rw [if_pos (by decide +kernel)]; kernel_rfl) | (rw [if_neg (by decide +kernel)]; exact ⟨rfl, rfl⟩))
    (fun os started H enc _ => lifted os started H enc)
#print axioms proved
end Go.Proofs.Ytchfiekepjndeaa.frameSize
