/-
  Layer 8, the document's answer (turntableref08): what its Right, Room, Put and Get answer, of any numbers and bytes. Assumed: that the bytes lie in memory.
-/
import Derived.Test.YtjmjinplihlhcaaDoorCeC

namespace Go.Proofs.YtjmjinplihlhcaaDoor
open Go.RowKit
set_option maxRecDepth 100000

theorem rright_walk (q p : Int) (w : World) : Calls Tryd.prog 14 #[.int .i64 q, .int .i64 p] w fun e w' => e = .returned (.bool (Ce.right q p)) ∧ w = w' := by
  by_cases h1 : 1 ≤ q
  · by_cases h2 : q ≤ 2147483648
    · by_cases h3 : 0 ≤ p
      · by_cases h4 : p ≤ 255
        · have e : Ce.right q p = true := by simp [Ce.right, *]
          rw [e]
          go_enter Tryd.func14, Tryd.ntmps14
          go_wp2
          go_ret
          exact ⟨rfl, rfl⟩
        · have e : Ce.right q p = false := by simp [Ce.right, *]
          rw [e]
          go_enter Tryd.func14, Tryd.ntmps14
          go_wp2
          go_ret
          exact ⟨rfl, rfl⟩
      · have e : Ce.right q p = false := by simp [Ce.right, *]
        rw [e]
        go_enter Tryd.func14, Tryd.ntmps14
        go_wp2
        go_ret
        exact ⟨rfl, rfl⟩
    · have e : Ce.right q p = false := by simp [Ce.right, *]
      rw [e]
      go_enter Tryd.func14, Tryd.ntmps14
      go_wp2
      go_ret
      exact ⟨rfl, rfl⟩
  · have e : Ce.right q p = false := by simp [Ce.right, *]
    rw [e]
    go_enter Tryd.func14, Tryd.ntmps14
    go_wp2
    go_ret
    exact ⟨rfl, rfl⟩

theorem rroom_walk (w : World) : Calls Tryd.prog 16 #[] w fun e w' => e = .returned (.int .i64 59) ∧ w = w' := by
  go_enter Tryd.func16, Tryd.ntmps16
  go_wp2
  go_ret
  exact ⟨rfl, rfl⟩

theorem four_walk (n : Nat) (hn : n < 4294967296) (w : World) : Calls Tryd.prog 20 #[.int .u32 (n : Int)] w (Made w (Crc.sumBytes (BitVec.ofNat 32 n))) := by
  have HC := Lib.hid (cells_sum4 n hn)
  go_enter Tryd.func20, Tryd.ntmps20
  go_wp2
  go_ret
  refine ⟨_, rfl, ?_, (Below.refl _ _).alloc (Nat.le_refl _) _⟩
  rw [HC.out]
  exact World.ownsRow_lit w _ 4 (Nat.le_refl _) (by unfold maxLen; omega) rfl

set_option maxHeartbeats 1000000 in
theorem rput_yes (qn pn : Nat) (hr : Ce.right (qn : Int) (pn : Int) = true) (A : Option Addr) (cap n : Nat) (bs : List UInt8) (w : World) (hn : bs.length = n) (h59 : n ≤ 59) (hA : Lies w A (cells bs)) :
    Calls Tryd.prog 12 #[.int .i64 (qn : Int), .int .i64 (pn : Int), .slice A n cap] w (Made w (Ce.made qn pn bs)) := by
  obtain ⟨i0, hi, hz0, hz1, hz2⟩ := info_parts infoU8
  obtain ⟨h1, h2, h3, h4⟩ := (Ce.right_iff _ _).1 hr
  have HRW := Lib.hid (rright_walk (qn : Int) (pn : Int) w)
  rw [hr] at HRW
  have hvc : ((UInt8.ofNat n).toNat : Int) = (n : Int) := by rw [UInt8.toNat_ofNat']; omega
  have hpc : ((UInt8.ofNat pn).toNat : Int) = (pn : Int) := by rw [UInt8.toNat_ofNat']; omega
  have HV := Lib.hid hvc
  have HPV := Lib.hid hpc
  have HN := Lib.hid hn
  have HCL := Lib.hid (show (cells bs).length = n by rw [cells_length, hn])
  have H1 := Lib.hid (cells_one bs)
  have HA := Lib.hid hA
  have hq2 : qn < 4294967296 := by omega
  have hp2 : pn ≤ 255 := by omega
  obtain ⟨m, hm⟩ : ∃ m, n + m = 59 := ⟨59 - n, by omega⟩
  have HBD := Lib.hid (show Ce.body bs = [UInt8.ofNat n] ++ bs ++ List.replicate m 0 by unfold Ce.body; rw [hn, show 59 - n = m by omega]; simp)
  have HBL := Lib.hid (Ce.body_length bs (by omega))
  have HM := Lib.hid (show Ce.made qn pn bs = Ce.body bs ++ Crc.sumBytes (Crc.of (Ce.hd qn pn ++ Ce.body bs)) by unfold Ce.made Ce.sum Crc.of; rw [Crc.more_append])
  have hdd : decide ((59 : Int) < (n : Int)) = false := by simp; omega
  clear hA hn hvc hpc hr h1 h2 h3 h4
  generalize Ce.made qn pn bs = M at *
  generalize Ce.body bs = BD at *
  go_enter Tryd.func12, Tryd.ntmps12
  go_wp2_with fail
  refine HRW.out.mono ?_
  rintro e w' ⟨rfl, rfl⟩
  go_wp2_with (at_builtin; refine wpList_app rfl _ _ 22 rfl w.heap.size 5 i0 (.int .u8 0) Tryd.underlying22 hi hz0 hz1 hz2 rfl (.slice (some ⟨w.heap.size, 0, none⟩) 1 1) 1 [.int .u8 (n : Int)] rfl ?a1 A n cap (cells bs) rfl ?a2 ?a3 H1.out ?a4 ?a5 ?a6)
  case a1 => exact World.ownsRow_lit w #[.int .u8 (n : Int)] 1 (Nat.le_refl _) (by unfold maxLen; omega) rfl
  case a2 => exact HCL.out
  case a3 => exact HA.out.keep (by simp) fun p hp => World.cell?_alloc_lt w _ p hp
  case a4 => omega
  case a5 => simp
  case a6 =>
    intro v1 w2 hown1 hg1 hat1
    have b2 : Below w.heap.size w w2 := ((Below.refl _ _).alloc (Nat.le_refl _) _).grown hg1 (by simp) (fun g hg => by simp [Value.ownBlock] at hg; omega)
    clear hg1 hat1
    have HO1 := Lib.hid hown1
    obtain ⟨A1, cap1, rfl, hc1, hc2, -, -⟩ := own_form hown1
    have B2 := Lib.hid b2
    clear hown1 b2
    go_wp2_with (at_builtin; refine wpList_zeros rfl _ _ rfl w.heap.size (.slice A1 (1 + n) cap1) (1 + n) m ([.int .u8 (n : Int)] ++ cells bs) rfl ?b0 ?b1 ?b2 ?b3 ?b4 ?b5)
    case b0 => show Value.int _ _ = _; congr 1; omega
    case b1 => exact HO1.out
    case b2 => omega
    case b3 => omega
    case b4 => exact B2.out.size
    case b5 =>
      intro v3 w3 hown3 hg3 hat3
      have b3 : Below w.heap.size w w3 := B2.out.grown hg3 B2.out.size (fun g hg => (HO1.out.lt g hg).1)
      have ho3 : w3.ownsRow w.heap.size 5 1 v3 60 (cells BD) := by
        rw [show 1 + n + m = 60 by omega] at hown3
        rw [HBD.out, cells_append, cells_append]
        have e1 : cells [UInt8.ofNat n] = [.int .u8 (n : Int)] := by rw [← HV.out]; rfl
        have e2 : cells (List.replicate m 0) = List.replicate m (.int .u8 0) := by unfold cells; rw [List.map_replicate]; rfl
        rw [e1, e2]
        exact hown3
      clear hg3 hat3 hown3
      obtain ⟨A3, cap3, rfl, -, -, -, hl3⟩ := own_form ho3
      have HO3 := Lib.hid ho3
      have HL3 := Lib.hid hl3
      have B3 := Lib.hid b3
      clear ho3 hl3 b3
      have HFW := Lib.hid (four_walk qn hq2 w3)
      have e4 : (Crc.sumBytes (BitVec.ofNat 32 qn)).length = 4 := Crc.sumBytes_length _
      have HHD := Lib.hid (show cells (Crc.sumBytes (BitVec.ofNat 32 qn)) ++ [.int .u8 (pn : Int)] = cells (Ce.hd qn pn) by
        unfold Ce.hd; rw [cells_append, ← HPV.out]; rfl)
      unfold Made at HFW
      rw [e4] at HFW
      generalize Crc.sumBytes (BitVec.ofNat 32 qn) = Q4 at *
      have HQ4 := Lib.hid e4
      clear e4
      go_wp2_with fail
      refine HFW.out.mono ?_
      rintro e w4 ⟨v4, rfl, ho4, hb4⟩
      have HO4 := Lib.hid ho4
      have B4 := Lib.hid hb4
      clear ho4 hb4
      go_wp2_with (at_builtin; refine wpList_app rfl _ _ 22 rfl w3.heap.size 5 i0 (.int .u8 0) Tryd.underlying22 hi hz0 hz1 hz2 rfl v4 4 (cells Q4) rfl ?c1 (some ⟨w4.heap.size, 0, none⟩) 1 1 [.int .u8 (pn : Int)] rfl rfl ?c2 ?c3 ?c4 ?c5 ?c6)
      case c1 => exact HO4.out.alloc _
      case c2 => exact Lies.new w4 #[.int .u8 (pn : Int)] 5
      case c3 => simp [Value.oneCell']
      case c4 => omega
      case c5 => have := B4.out.size; simp; omega
      case c6 =>
        intro v5 w5 hown5 hg5 hat5
        have b5 : Below w3.heap.size w3 w5 := (B4.out.alloc B4.out.size _).grown hg5 (by have := B4.out.size; simp; omega) (fun g hg => (HO4.out.lt g hg).1)
        rw [HHD.out] at hown5
        have HO5 := Lib.hid hown5
        have B5 := Lib.hid b5
        clear hown5 hg5 hat5 b5
        go_wp2_with (at_builtin; refine wpList_app rfl _ _ 22 rfl w3.heap.size 5 i0 (.int .u8 0) Tryd.underlying22 hi hz0 hz1 hz2 rfl v5 5 (cells (Ce.hd qn pn)) rfl ?d1 A3 60 cap3 (cells BD) rfl ?d2 ?d3 (cells_one BD) ?d4 ?d5 ?d6)
        case d1 => exact HO5.out
        case d2 => rw [cells_length, HBL.out]
        case d3 => exact HL3.out.below B5.out
        case d4 => omega
        case d5 => exact B5.out.size
        case d6 =>
          intro v6 w6 hown6 hg6 hat6
          have b6 : Below w3.heap.size w3 w6 := B5.out.grown hg6 B5.out.size (fun g hg => (HO5.out.lt g hg).1)
          rw [← cells_append] at hown6
          obtain ⟨A6, cap6, rfl, -, -, -, hl6⟩ := own_form hown6
          have HL6 := Lib.hid hl6
          have B6 := Lib.hid b6
          clear hown6 hg6 hat6 b6 hl6
          have HLH := Lib.hid (show (Ce.hd qn pn ++ BD).length = 65 by rw [List.length_append, HBL.out]; rfl)
          generalize Ce.hd qn pn ++ BD = HB at *
          go_wp2_with fail
          refine (rOf_walk A6 cap6 65 HB w6 HLH.out (by omega) HL6.out).mono ?_
          rintro e w' ⟨rfl, rfl⟩
          generalize hS : Crc.of HB = S at *
          have hSlt := S.isLt
          have HFS := Lib.hid (four_walk S.toNat hSlt w6)
          rw [ofNat_of] at HFS
          have e4 : (Crc.sumBytes S).length = 4 := Crc.sumBytes_length _
          unfold Made at HFS
          rw [e4] at HFS
          generalize Crc.sumBytes S = S4 at *
          generalize S.toNat = sn at *
          have HS4 := Lib.hid e4
          clear hS hSlt e4
          go_wp2_with fail
          refine HFS.out.mono ?_
          rintro e w7 ⟨v7, rfl, ho7, hb7⟩
          obtain ⟨A7, cap7, rfl, -, -, -, hl7⟩ := own_form ho7
          have HL7 := Lib.hid hl7
          have B7 := Lib.hid (B6.out.trans (hb7.mono B6.out.size))
          have HO37 := Lib.hid (own_keep HO3.out B7.out)
          clear ho7 hb7 hl7
          go_wp2_with (at_builtin; refine wpList_app rfl _ _ 22 rfl w.heap.size 5 i0 (.int .u8 0) Tryd.underlying22 hi hz0 hz1 hz2 rfl (.slice A3 60 cap3) 60 (cells BD) rfl ?f1 A7 4 cap7 (cells S4) rfl ?f2 ?f3 (cells_one S4) ?f4 ?f5 ?f6)
          case f1 => exact HO37.out
          case f2 => rw [cells_length, HS4.out]
          case f3 => exact HL7.out
          case f4 => omega
          case f5 => have := B3.out.size; have := B7.out.size; omega
          case f6 =>
            intro v8 w8 hown8 hg8 hat8
            have b8 : Below w.heap.size w w8 := (B3.out.trans (B7.out.mono B3.out.size)).grown hg8 (by have := B3.out.size; have := B7.out.size; omega) (fun g hg => (HO37.out.lt g hg).1)
            rw [← cells_append, ← HM.out] at hown8
            have HML := Lib.hid (show M.length = 60 + 4 by rw [HM.out, List.length_append, HBL.out, HS4.out])
            have HO8 := Lib.hid hown8
            have B8 := Lib.hid b8
            clear hown8 hg8 hat8 b8
            go_wp2
            go_ret
            exact ⟨v8, rfl, by rw [HML.out]; exact HO8.out, B8.out⟩

theorem rput_walk (q p : Int) (A : Option Addr) (cap n : Nat) (bs : List UInt8) (w : World) (hn : bs.length = n) (hA : Lies w A (cells bs)) :
    Calls Tryd.prog 12 #[.int .i64 q, .int .i64 p, .slice A n cap] w (Made w (Ce.put q p bs)) := by
  by_cases hr : Ce.right q p = true
  · by_cases h59 : n ≤ 59
    · obtain ⟨h1, h2, h3, h4⟩ := (Ce.right_iff q p).1 hr
      obtain ⟨qn, rfl⟩ := Int.eq_ofNat_of_zero_le (show 0 ≤ q by omega)
      obtain ⟨pn, rfl⟩ := Int.eq_ofNat_of_zero_le h3
      rw [Ce.put_yes hr (by omega)]
      exact rput_yes qn pn hr A cap n bs w hn h59 hA
    · rw [Ce.put_no (fun h => h59 (by omega))]
      have HRW := Lib.hid (rright_walk q p w)
      rw [hr] at HRW
      have hdd : decide ((59 : Int) < (n : Int)) = true := by simp; omega
      clear hA hn hr
      go_enter Tryd.func12, Tryd.ntmps12
      go_wp2_with fail
      refine HRW.out.mono ?_
      rintro e w' ⟨rfl, rfl⟩
      go_wp2
      go_ret
      exact ⟨_, rfl, World.ownsRow_nil w _ _ 1, Below.refl _ _⟩
  · rw [Ce.put_no (fun h => hr h.1)]
    have hr' : Ce.right q p = false := by simpa using hr
    have HRW := Lib.hid (rright_walk q p w)
    rw [hr'] at HRW
    clear hA hn hr hr'
    go_enter Tryd.func12, Tryd.ntmps12
    go_wp2_with fail
    refine HRW.out.mono ?_
    rintro e w' ⟨rfl, rfl⟩
    go_wp2
    go_ret
    exact ⟨_, rfl, World.ownsRow_nil w _ _ 1, Below.refl _ _⟩

/-- what the document's Get hands back: bytes of its own, or none -/
def GivesR (w : World) (ok : Bool) (b : List UInt8) (e : Ending) (w' : World) : Prop :=
  Below w.heap.size w w' ∧ ((ok = true ∧ ∃ v, e = .returned (.tuple #[v, .bool true]) ∧ w'.ownsRow w.heap.size 5 1 v b.length (cells b)) ∨ (ok = false ∧ e = .returned (.tuple #[.slice none 0 0, .bool false])))

theorem slice_from1 (b o k cap : Nat) (hk : k ≤ 59) (hc : 64 ≤ cap) (W : World) : (Instr.sliceAt 22 (.slice (some ⟨b, o, none⟩) 64 cap) (some (.int .i64 1)) (some (.int .i64 (1 + (k : Int)))) none).run Tryd.prog W = .ok (.slice (some ⟨b, o + 1, none⟩) k (cap - 1)) W := by
  obtain ⟨i, hi, hsz⟩ := Option.map_eq_some_iff.1 sizeU8
  have e : (1 + (k : Int)).toNat = 1 + k := by omega
  have h0 : (0 : Int) ≤ 1 + (k : Int) := by omega
  have h1 : (1 : Int) ≤ 1 + (k : Int) := by omega
  have h2 : 1 + (k : Int) ≤ (cap : Int) := by omega
  have h3 : ¬ cap = 1 := by omega
  simp [Instr.sliceAt, Instr.slice, run_underlying Tryd.underlying22, Instr.sliceBounds, Instr.sliceBound, asIntOf, sizeOf, typeInfo, hi, hsz, h0, h1, h2, h3, e, Addr.add]

set_option maxHeartbeats 1000000 in
theorem rget_64 (q p : Int) (b o cap : Nat) (s : List UInt8) (w : World) (hs : s.length = 64) (hc : 64 ≤ cap) (hb : b < w.heap.size) (hA : w.rangeAt b o (cells s)) :
    Calls Tryd.prog 10 #[.slice (some ⟨b, o, none⟩) 64 cap, .int .i64 q, .int .i64 p] w (GivesR w (Ce.ok q p s) (Ce.nb s)) := by
  unfold GivesR
  obtain ⟨i0, hi, hz0, hz1, hz2⟩ := info_parts infoU8
  obtain ⟨k, hk⟩ : ∃ k, (s.headD 0).toNat = k := ⟨_, rfl⟩
  have hcell : w.cell? ⟨b, o, none⟩ = some (.int .u8 (k : Int)) := by
    have h0 := hA 0 (.int .u8 (k : Int)) (by
      rw [← hk]
      obtain ⟨c, l, rfl⟩ := List.exists_cons_of_ne_nil (show s ≠ [] by intro h; rw [h] at hs; cases hs)
      simp [cells])
    exact h0
  by_cases h59 : k ≤ 59
  · have hdd : decide ((59 : Int) < (k : Int)) = false := by simp; omega
    have hcell2 : ∀ o', (w.alloc o').cell? ⟨b, o, none⟩ = some (.int .u8 (k : Int)) := fun o' => (World.cell?_alloc_lt w o' _ hb).trans hcell
    have hsl := fun W => slice_from1 b o k cap h59 hc W
    have hLs : Lies w (some ⟨b, o, none⟩) (cells s) := .inr ⟨_, rfl, hb, fun j u hu => by rw [Addr.add_mid]; exact hA j u hu⟩
    have hLb : Lies w (some ⟨b, o + 1, none⟩) (cells (Ce.nb s)) := by
      refine .inr ⟨_, rfl, hb, fun j u hu => ?_⟩
      rw [Addr.add_mid, show o + 1 + j = o + (1 + j) by omega]
      refine hA (1 + j) u ?_
      unfold Ce.nb at hu
      rw [← cells_take, ← cells_drop, List.getElem?_take] at hu
      split at hu
      · rw [List.getElem?_drop] at hu; exact hu
      · cases hu
    have HNL := Lib.hid (show (Ce.nb s).length = k by rw [Ce.nb_length hs (by omega), hk])
    have HOK := Lib.hid (show Ce.ok q p s = decide (Ce.put q p (Ce.nb s) = s) by
      rw [Bool.eq_iff_iff, decide_eq_true_eq]
      constructor
      · exact Ce.ok_put
      · intro h
        have hr : Ce.right q p = true := by
          cases hr : Ce.right q p with
          | true => rfl
          | false =>
            rw [Ce.put_no (by simp [hr])] at h
            rw [← h] at hs; cases hs
        rw [Ce.put_yes hr (by rw [HNL.out]; exact h59)] at h
        exact Ce.ok_iff.2 ⟨hr, hs, by omega, h⟩)
    have HLB := Lib.hid hLb
    have HLS := Lib.hid hLs
    have HSL := Lib.hid hs
    have HPW := Lib.hid (fun (A : Option Addr) (cap : Nat) (W : World) (hA : Lies W A (cells (Ce.nb s))) => rput_walk q p A cap k (Ce.nb s) W HNL.out hA)
    have HBS := Lib.hid (beq_str (Ce.put q p (Ce.nb s)) s)
    have HCB0 := Lib.hid (fun (u : World) (h : Lies u (some ⟨b, o, none⟩) (cells s)) => conv_str (P := Tryd.prog) (c := cap) h 22 5 Tryd.underlying22 Tryd.underlying5 9 Tryd.underlying9)
    rw [hs] at HCB0
    generalize Ce.put q p (Ce.nb s) = Z at *
    generalize Ce.nb s = bs at *
    generalize Ce.ok q p s = OK at *
    generalize str s = SB at *
    clear hA hs hk hLb hLs
    go_enter Tryd.func10, Tryd.ntmps10
    go_wp2_with (at_builtin; refine wpList_app rfl _ _ 22 rfl w.heap.size 5 i0 (.int .u8 0) Tryd.underlying22 hi hz0 hz1 hz2 rfl (.slice (some ⟨w.heap.size, 0, none⟩) 0 0) 0 [] rfl ?a1 (some ⟨b, o + 1, none⟩) k (cap - 1) (cells bs) rfl ?a2 ?a3 (cells_one bs) ?a4 ?a5 ?a6)
    case a1 => exact World.ownsRow_lit w #[] 0 (Nat.le_refl _) (by unfold maxLen; omega) rfl
    case a2 => rw [cells_length, HNL.out]
    case a3 => exact HLB.out.keep (by simp) fun p hp => World.cell?_alloc_lt w _ p hp
    case a4 => omega
    case a5 => simp
    case a6 =>
      intro v1 w2 hown1 hg1 hat1
      have b2 : Below w.heap.size w w2 := ((Below.refl _ _).alloc (Nat.le_refl _) _).grown hg1 (by simp) (fun g hg => by simp [Value.ownBlock] at hg; omega)
      clear hg1 hat1
      have HO1 := Lib.hid hown1
      obtain ⟨A1, cap1, hv1, -, -, -, hl1⟩ := own_form hown1
      have HPD := Lib.hid (fun (W : World) (hW : Below w2.heap.size w2 W) => HPW.out A1 cap1 W (hl1.below hW))
      have HCB := Lib.hid (fun (W : World) (hW : Below w2.heap.size w2 W) => HCB0.out W ((HLS.out.below b2).below hW))
      have B2 := Lib.hid b2
      clear hown1 b2 hl1 HPW HCB0 hdd hcell2 hcell
      subst hv1
      obtain ⟨B, hB⟩ : ∃ B, (!((str Z).toList == SB.toList)) = B := ⟨_, rfl⟩
      have HBV := Lib.hid (show OK = !B by rw [HOK.out, ← HBS.out, ← hB]; simp)
      have hne := hB
      clear hB HBS HOK
      go_wp2
      refine wp_softS (by kernel_rfl) 36 [(27, [1]), (28, [2]), (29, [8]), (30, [27, 28, 29]), (31, [30]), (32, [0]), (33, [32]), (34, [31, 33])]
        [Fact.is (.int .i64 q), Fact.is (.int .i64 p), Fact.is (.slice A1 k cap1), Fact.own Z, Fact.is (.string (str Z)), Fact.is (.slice (some ⟨b, o, none⟩) 64 cap), Fact.is (.string SB), Fact.is (.bool B)]
        (by kernel_rfl) rfl rfl ⟨?s0, ?s1, ?s2, ?s3, ?s4, ?s5, ?s6, ?s7, trivial⟩ ?fin
      case s0 =>
        intro ρ W hb hc hf hr
        obtain ⟨r1, -⟩ := hr
        have e1 : ρ (.tmp 1) = .int .i64 q := r1
        clear r1
        refine under_none rfl ?_
        exact ⟨e1, Below.refl _ _⟩
      case s1 =>
        intro ρ W hb hc hf hr
        obtain ⟨r2, -⟩ := hr
        have e2 : ρ (.tmp 2) = .int .i64 p := r2
        clear r2
        refine under_none rfl ?_
        exact ⟨e2, Below.refl _ _⟩
      case s2 =>
        intro ρ W hb hc hf hr
        obtain ⟨r8, -⟩ := hr
        have e8 : ρ (.tmp 8) = .slice A1 k cap1 := r8
        clear r8
        refine under_none rfl ?_
        exact ⟨e8, Below.refl _ _⟩
      case s3 =>
        intro ρ W hb hc hf hr
        obtain ⟨r27, r28, r29, -⟩ := hr
        have e27 : ρ (.tmp 27) = .int .i64 q := r27
        clear r27
        have e28 : ρ (.tmp 28) = .int .i64 p := r28
        clear r28
        have e29 : ρ (.tmp 29) = .slice A1 k cap1 := r29
        clear r29
        refine under_none rfl ?_
        exact soft_call3 hf e27 e28 e29 (HPD.out W (undrew hb)) rfl (by kernel_rfl) made_own
      case s4 =>
        intro ρ W hb hc hf hr
        obtain ⟨r30, -⟩ := hr
        refine under_none rfl ?_
        exact soft_own r30 rfl
      case s5 =>
        intro ρ W hb hc hf hr
        obtain ⟨r0, -⟩ := hr
        have e0 : ρ (.tmp 0) = .slice (some ⟨b, o, none⟩) 64 cap := r0
        clear r0
        refine under_none rfl ?_
        exact ⟨e0, Below.refl _ _⟩
      case s6 =>
        intro ρ W hb hc hf hr
        obtain ⟨r32, -⟩ := hr
        have e32 : ρ (.tmp 32) = .slice (some ⟨b, o, none⟩) 64 cap := r32
        clear r32
        refine under_none rfl ?_
        exact soft_conv e32 (HCB.out W (undrew hb)) rfl
      case s7 =>
        intro ρ W hb hc hf hr
        obtain ⟨r31, r33, -⟩ := hr
        have e31 : ρ (.tmp 31) = .string (str Z) := r31
        clear r31
        have e33 : ρ (.tmp 33) = .string SB := r33
        clear r33
        refine under_none rfl ?_
        exact soft_bin e31 e33 rfl rfl (by rw [binOp_string_neq, hne]; rfl)
      case fin =>
        intro a w1 hb hd hsz hk
        have ea := act_puts hd hsz rfl hk
        have k27 : a.tmps.getD 27 undef = .int .i64 q := hk 27
        have k28 : a.tmps.getD 28 undef = .int .i64 p := hk 28
        have k29 : a.tmps.getD 29 undef = .slice A1 k cap1 := hk 29
        have k30 : (Fact.own Z).φ (a.tmps.getD 30 undef) w1 := hk 30
        have k31 : a.tmps.getD 31 undef = .string (str Z) := hk 31
        have k32 : a.tmps.getD 32 undef = .slice (some ⟨b, o, none⟩) 64 cap := hk 32
        have k33 : a.tmps.getD 33 undef = .string SB := hk 33
        have k34 : a.tmps.getD 34 undef = .bool B := hk 34
        clear hk hd hsz
        simp only [List.map_cons, List.map_nil, List.foldl_cons, List.foldl_nil, k27, k28, k29, k31, k32, k33, k34] at ea
        clear k27 k28 k29 k31 k32 k33 k34
        generalize a.tmps.getD 30 undef = v30 at ea k30
        simp only [Act.put, List.setIfInBounds_toArray, List.set_cons_succ, List.set_cons_zero] at ea
        subst ea
        have c5 := undrew hb
        have c6 := B2.out.trans (c5.mono B2.out.size)
        cases B with
        | true =>
          go_wp2
          go_ret2
          exact ⟨c6, .inr ⟨by rw [HBV.out]; rfl, rfl⟩⟩
        | false =>
          go_wp2
          go_ret2
          exact ⟨c6, .inl ⟨by rw [HBV.out]; rfl, _, rfl, by rw [HNL.out]; exact own_keep HO1.out c5⟩⟩
  · have hdd : decide ((59 : Int) < (k : Int)) = true := by simp; omega
    have HNO := Lib.hid (show Ce.ok q p s = false by
      cases ho : Ce.ok q p s with
      | false => rfl
      | true => exact absurd ((Ce.ok_iff.1 ho).2.2.1) (by omega))
    clear hA hs hk hb
    go_enter Tryd.func10, Tryd.ntmps10
    go_wp2
    go_ret2
    exact ⟨Below.refl _ _, .inr ⟨HNO.out, rfl⟩⟩

theorem rget_walk (q p : Int) (A : Option Addr) (cap n : Nat) (s : List UInt8) (w : World) (hn : s.length = n) (hc : n ≤ cap) (hA : Lies w A (cells s)) :
    Calls Tryd.prog 10 #[.slice A n cap, .int .i64 q, .int .i64 p] w (GivesR w (Ce.ok q p s) (Ce.nb s)) := by
  by_cases h64 : n = 64
  · subst h64
    rcases hA with h | ⟨ad, rfl, hb, hc'⟩
    · have : (cells s).length = 0 := by rw [h]; rfl
      rw [cells_length] at this; omega
    · obtain ⟨b, o, sp⟩ := ad
      have h0 := hc' 0 _ (List.getElem?_eq_getElem (by rw [cells_length]; omega))
      have hsp : sp = none := by
        cases sp with
        | none => rfl
        | some n =>
          simp only [Addr.add, if_true, World.cell?] at h0
          split at h0 <;> simp at h0
      subst hsp
      exact rget_64 q p b o cap s w hn hc hb (fun j u hu => by have := hc' j u hu; rwa [Addr.add_mid] at this)
  · have HNO := Lib.hid (Ce.ok_len (q := q) (p := p) (s := s) (by omega))
    have hne : ((n : Int) != 64) = true := by simp; omega
    clear hA hn
    unfold GivesR
    go_enter Tryd.func10, Tryd.ntmps10
    go_wp2
    go_ret2
    exact ⟨Below.refl _ _, .inr ⟨HNO.out, rfl⟩⟩

end Go.Proofs.YtjmjinplihlhcaaDoor
