/-
  Layer 8, the document's answer (turntableref08): what its Right, Room, Put and Get answer, of any numbers and bytes. Assumed: that the bytes lie in memory.
-/
import Derived.Test.YtehnhjnkbclnlaaGreatDoorCel

namespace Go.Proofs.YtehnhjnkbclnlaaGreatDoor
open Go.RowKit
set_option maxRecDepth 100000

theorem rright_walk (q p : Int) (w : World) : Calls Tryz.prog 69 #[.int .i64 q, .int .i64 p] w fun e w' => e = .returned (.bool (Ce.right q p)) ∧ w = w' := by
  by_cases h1 : 1 ≤ q
  · by_cases h2 : q ≤ 2147483648
    · by_cases h3 : 0 ≤ p
      · by_cases h4 : p ≤ 255
        · have e : Ce.right q p = true := by simp [Ce.right, *]
          rw [e]
          go_enter Tryz.func69, Tryz.ntmps69
          go_wp2
          go_ret
          exact ⟨rfl, rfl⟩
        · have e : Ce.right q p = false := by simp [Ce.right, *]
          rw [e]
          go_enter Tryz.func69, Tryz.ntmps69
          go_wp2
          go_ret
          exact ⟨rfl, rfl⟩
      · have e : Ce.right q p = false := by simp [Ce.right, *]
        rw [e]
        go_enter Tryz.func69, Tryz.ntmps69
        go_wp2
        go_ret
        exact ⟨rfl, rfl⟩
    · have e : Ce.right q p = false := by simp [Ce.right, *]
      rw [e]
      go_enter Tryz.func69, Tryz.ntmps69
      go_wp2
      go_ret
      exact ⟨rfl, rfl⟩
  · have e : Ce.right q p = false := by simp [Ce.right, *]
    rw [e]
    go_enter Tryz.func69, Tryz.ntmps69
    go_wp2
    go_ret
    exact ⟨rfl, rfl⟩

theorem four_walk (n : Nat) (hn : n < 4294967296) (w : World) : Calls Tryz.prog 71 #[.int .u32 (n : Int)] w (Made w (Crc.sumBytes (BitVec.ofNat 32 n))) := by
  have HC := Lib.hid (cells_sum4 n hn)
  go_enter Tryz.func71, Tryz.ntmps71
  go_wp2
  go_ret
  refine ⟨_, rfl, ?_, (Below.refl _ _).alloc (Nat.le_refl _) _⟩
  rw [HC.out]
  exact World.ownsRow_lit w _ 4 (Nat.le_refl _) (by unfold maxLen; omega) rfl

set_option maxHeartbeats 1000000 in
theorem rput_yes (qn pn : Nat) (hr : Ce.right (qn : Int) (pn : Int) = true) (A : Option Addr) (cap n : Nat) (bs : List UInt8) (w : World) (hn : bs.length = n) (h59 : n ≤ 59) (hA : Lies w A (cells bs)) :
    Calls Tryz.prog 58 #[.int .i64 (qn : Int), .int .i64 (pn : Int), .slice A n cap] w (Made w (Ce.made qn pn bs)) := by
  obtain ⟨i0, hi, hz0, hz1, hz2⟩ := info_parts infoU8
  obtain ⟨h1, h2, h3, h4⟩ := (Ce.right_iff _ _).1 hr
  have HRW := Lib.hid (rright_walk (qn : Int) (pn : Int) w)
  rw [hr] at HRW
  have hvc : ((UInt8.ofNat n).toNat : Int) = (n : Int) := by rw [UInt8.toNat_ofNat']; omega
  have hpc : ((UInt8.ofNat pn).toNat : Int) = (pn : Int) := by rw [UInt8.toNat_ofNat']; omega
  have HV := Lib.hid hvc
  have HPV := Lib.hid hpc
  have HN := Lib.hid hn
  have HCL := Lib.hid (show (cells bs).length = n by rw [cells_length, hn])
  have H1 := Lib.hid (cells_one bs)
  have HA := Lib.hid hA
  have hq2 : qn < 4294967296 := by omega
  have hp2 : pn ≤ 255 := by omega
  obtain ⟨m, hm⟩ : ∃ m, n + m = 59 := ⟨59 - n, by omega⟩
  have HBD := Lib.hid (show Ce.body bs = [UInt8.ofNat n] ++ bs ++ List.replicate m 0 by unfold Ce.body; rw [hn, show 59 - n = m by omega]; simp)
  have HBL := Lib.hid (Ce.body_length bs (by omega))
  have HM := Lib.hid (show Ce.made qn pn bs = Ce.body bs ++ Crc.sumBytes (Crc.of (Ce.hd qn pn ++ Ce.body bs)) by unfold Ce.made Ce.sum Crc.of; rw [Crc.more_append])
  have hdd : decide ((59 : Int) < (n : Int)) = false := by simp; omega
  clear hA hn hvc hpc hr h1 h2 h3 h4
  generalize Ce.made qn pn bs = M at *
  generalize Ce.body bs = BD at *
  go_enter Tryz.func58, Tryz.ntmps58
  go_wp2_with fail
  refine HRW.out.mono ?_
  rintro e w' ⟨rfl, rfl⟩
  go_wp2_with (at_builtin; refine wpList_app rfl _ _ 32 rfl w.heap.size 5 i0 (.int .u8 0) Tryz.underlying32 hi hz0 hz1 hz2 rfl (.slice (some ⟨w.heap.size, 0, none⟩) 1 1) 1 [.int .u8 (n : Int)] rfl ?a1 A n cap (cells bs) rfl ?a2 ?a3 H1.out ?a4 ?a5 ?a6)
  case a1 => exact World.ownsRow_lit w #[.int .u8 (n : Int)] 1 (Nat.le_refl _) (by unfold maxLen; omega) rfl
  case a2 => exact HCL.out
  case a3 => exact HA.out.keep (by simp) fun p hp => World.cell?_alloc_lt w _ p hp
  case a4 => omega
  case a5 => simp
  case a6 =>
    intro v1 w2 hown1 hg1 hat1
    have b2 : Below w.heap.size w w2 := ((Below.refl _ _).alloc (Nat.le_refl _) _).grown hg1 (by simp) (fun g hg => by simp [Value.ownBlock] at hg; omega)
    clear hg1 hat1
    have HO1 := Lib.hid hown1
    obtain ⟨A1, cap1, rfl, hc1, hc2, -, -⟩ := own_form hown1
    have B2 := Lib.hid b2
    clear hown1 b2
    go_wp2_with (at_builtin; refine wpList_zeros rfl _ _ rfl w.heap.size (.slice A1 (1 + n) cap1) (1 + n) m ([.int .u8 (n : Int)] ++ cells bs) rfl ?b0 ?b1 ?b2 ?b3 ?b4 ?b5)
    case b0 => show Value.int _ _ = _; congr 1; omega
    case b1 => exact HO1.out
    case b2 => omega
    case b3 => omega
    case b4 => exact B2.out.size
    case b5 =>
      intro v3 w3 hown3 hg3 hat3
      have b3 : Below w.heap.size w w3 := B2.out.grown hg3 B2.out.size (fun g hg => (HO1.out.lt g hg).1)
      have ho3 : w3.ownsRow w.heap.size 5 1 v3 60 (cells BD) := by
        rw [show 1 + n + m = 60 by omega] at hown3
        rw [HBD.out, cells_append, cells_append]
        have e1 : cells [UInt8.ofNat n] = [.int .u8 (n : Int)] := by rw [← HV.out]; rfl
        have e2 : cells (List.replicate m 0) = List.replicate m (.int .u8 0) := by unfold cells; rw [List.map_replicate]; rfl
        rw [e1, e2]
        exact hown3
      clear hg3 hat3 hown3
      obtain ⟨A3, cap3, rfl, -, -, -, hl3⟩ := own_form ho3
      have HO3 := Lib.hid ho3
      have HL3 := Lib.hid hl3
      have B3 := Lib.hid b3
      clear ho3 hl3 b3
      have HFW := Lib.hid (four_walk qn hq2 w3)
      have e4 : (Crc.sumBytes (BitVec.ofNat 32 qn)).length = 4 := Crc.sumBytes_length _
      have HHD := Lib.hid (show cells (Crc.sumBytes (BitVec.ofNat 32 qn)) ++ [.int .u8 (pn : Int)] = cells (Ce.hd qn pn) by
        unfold Ce.hd; rw [cells_append, ← HPV.out]; rfl)
      unfold Made at HFW
      rw [e4] at HFW
      generalize Crc.sumBytes (BitVec.ofNat 32 qn) = Q4 at *
      have HQ4 := Lib.hid e4
      clear e4
      go_wp2_with fail
      refine HFW.out.mono ?_
      rintro e w4 ⟨v4, rfl, ho4, hb4⟩
      have HO4 := Lib.hid ho4
      have B4 := Lib.hid hb4
      clear ho4 hb4
      go_wp2_with (at_builtin; refine wpList_app rfl _ _ 32 rfl w3.heap.size 5 i0 (.int .u8 0) Tryz.underlying32 hi hz0 hz1 hz2 rfl v4 4 (cells Q4) rfl ?c1 (some ⟨w4.heap.size, 0, none⟩) 1 1 [.int .u8 (pn : Int)] rfl rfl ?c2 ?c3 ?c4 ?c5 ?c6)
      case c1 => exact HO4.out.alloc _
      case c2 => exact Lies.new w4 #[.int .u8 (pn : Int)] 5
      case c3 => simp [Value.oneCell']
      case c4 => omega
      case c5 => have := B4.out.size; simp; omega
      case c6 =>
        intro v5 w5 hown5 hg5 hat5
        have b5 : Below w3.heap.size w3 w5 := (B4.out.alloc B4.out.size _).grown hg5 (by have := B4.out.size; simp; omega) (fun g hg => (HO4.out.lt g hg).1)
        rw [HHD.out] at hown5
        have HO5 := Lib.hid hown5
        have B5 := Lib.hid b5
        clear hown5 hg5 hat5 b5
        go_wp2_with (at_builtin; refine wpList_app rfl _ _ 32 rfl w3.heap.size 5 i0 (.int .u8 0) Tryz.underlying32 hi hz0 hz1 hz2 rfl v5 5 (cells (Ce.hd qn pn)) rfl ?d1 A3 60 cap3 (cells BD) rfl ?d2 ?d3 (cells_one BD) ?d4 ?d5 ?d6)
        case d1 => exact HO5.out
        case d2 => rw [cells_length, HBL.out]
        case d3 => exact HL3.out.below B5.out
        case d4 => omega
        case d5 => exact B5.out.size
        case d6 =>
          intro v6 w6 hown6 hg6 hat6
          have b6 : Below w3.heap.size w3 w6 := B5.out.grown hg6 B5.out.size (fun g hg => (HO5.out.lt g hg).1)
          rw [← cells_append] at hown6
          obtain ⟨A6, cap6, rfl, -, -, -, hl6⟩ := own_form hown6
          have HL6 := Lib.hid hl6
          have B6 := Lib.hid b6
          clear hown6 hg6 hat6 b6 hl6
          have HLH := Lib.hid (show (Ce.hd qn pn ++ BD).length = 65 by rw [List.length_append, HBL.out]; rfl)
          generalize Ce.hd qn pn ++ BD = HB at *
          go_wp2_with fail
          refine (rOf_walk A6 cap6 65 HB w6 HLH.out (by omega) HL6.out).mono ?_
          rintro e w' ⟨rfl, rfl⟩
          generalize hS : Crc.of HB = S at *
          have hSlt := S.isLt
          have HFS := Lib.hid (four_walk S.toNat hSlt w6)
          rw [ofNat_of] at HFS
          have e4 : (Crc.sumBytes S).length = 4 := Crc.sumBytes_length _
          unfold Made at HFS
          rw [e4] at HFS
          generalize Crc.sumBytes S = S4 at *
          generalize S.toNat = sn at *
          have HS4 := Lib.hid e4
          clear hS hSlt e4
          go_wp2_with fail
          refine HFS.out.mono ?_
          rintro e w7 ⟨v7, rfl, ho7, hb7⟩
          obtain ⟨A7, cap7, rfl, -, -, -, hl7⟩ := own_form ho7
          have HL7 := Lib.hid hl7
          have B7 := Lib.hid (B6.out.trans (hb7.mono B6.out.size))
          have HO37 := Lib.hid (own_keep HO3.out B7.out)
          clear ho7 hb7 hl7
          go_wp2_with (at_builtin; refine wpList_app rfl _ _ 32 rfl w.heap.size 5 i0 (.int .u8 0) Tryz.underlying32 hi hz0 hz1 hz2 rfl (.slice A3 60 cap3) 60 (cells BD) rfl ?f1 A7 4 cap7 (cells S4) rfl ?f2 ?f3 (cells_one S4) ?f4 ?f5 ?f6)
          case f1 => exact HO37.out
          case f2 => rw [cells_length, HS4.out]
          case f3 => exact HL7.out
          case f4 => omega
          case f5 => have := B3.out.size; have := B7.out.size; omega
          case f6 =>
            intro v8 w8 hown8 hg8 hat8
            have b8 : Below w.heap.size w w8 := (B3.out.trans (B7.out.mono B3.out.size)).grown hg8 (by have := B3.out.size; have := B7.out.size; omega) (fun g hg => (HO37.out.lt g hg).1)
            rw [← cells_append, ← HM.out] at hown8
            have HML := Lib.hid (show M.length = 60 + 4 by rw [HM.out, List.length_append, HBL.out, HS4.out])
            have HO8 := Lib.hid hown8
            have B8 := Lib.hid b8
            clear hown8 hg8 hat8 b8
            go_wp2
            go_ret
            exact ⟨v8, rfl, by rw [HML.out]; exact HO8.out, B8.out⟩

theorem rput_walk (q p : Int) (A : Option Addr) (cap n : Nat) (bs : List UInt8) (w : World) (hn : bs.length = n) (hA : Lies w A (cells bs)) :
    Calls Tryz.prog 58 #[.int .i64 q, .int .i64 p, .slice A n cap] w (Made w (Ce.put q p bs)) := by
  by_cases hr : Ce.right q p = true
  · by_cases h59 : n ≤ 59
    · obtain ⟨h1, h2, h3, h4⟩ := (Ce.right_iff q p).1 hr
      obtain ⟨qn, rfl⟩ := Int.eq_ofNat_of_zero_le (show 0 ≤ q by omega)
      obtain ⟨pn, rfl⟩ := Int.eq_ofNat_of_zero_le h3
      rw [Ce.put_yes hr (by omega)]
      exact rput_yes qn pn hr A cap n bs w hn h59 hA
    · rw [Ce.put_no (fun h => h59 (by omega))]
      have HRW := Lib.hid (rright_walk q p w)
      rw [hr] at HRW
      have hdd : decide ((59 : Int) < (n : Int)) = true := by simp; omega
      clear hA hn hr
      go_enter Tryz.func58, Tryz.ntmps58
      go_wp2_with fail
      refine HRW.out.mono ?_
      rintro e w' ⟨rfl, rfl⟩
      go_wp2
      go_ret
      exact ⟨_, rfl, World.ownsRow_nil w _ _ 1, Below.refl _ _⟩
  · rw [Ce.put_no (fun h => hr h.1)]
    have hr' : Ce.right q p = false := by simpa using hr
    have HRW := Lib.hid (rright_walk q p w)
    rw [hr'] at HRW
    clear hA hn hr hr'
    go_enter Tryz.func58, Tryz.ntmps58
    go_wp2_with fail
    refine HRW.out.mono ?_
    rintro e w' ⟨rfl, rfl⟩
    go_wp2
    go_ret
    exact ⟨_, rfl, World.ownsRow_nil w _ _ 1, Below.refl _ _⟩

/-- what the document's Get hands back: bytes of its own, or none -/
def GivesR (w : World) (ok : Bool) (b : List UInt8) (e : Ending) (w' : World) : Prop :=
  Below w.heap.size w w' ∧ ((ok = true ∧ ∃ v, e = .returned (.tuple #[v, .bool true]) ∧ w'.ownsRow w.heap.size 5 1 v b.length (cells b)) ∨ (ok = false ∧ e = .returned (.tuple #[.slice none 0 0, .bool false])))

theorem slice_from1 (b o k cap : Nat) (hk : k ≤ 59) (hc : 64 ≤ cap) (W : World) : (Instr.sliceAt 32 (.slice (some ⟨b, o, none⟩) 64 cap) (some (.int .i64 1)) (some (.int .i64 (1 + (k : Int)))) none).run Tryz.prog W = .ok (.slice (some ⟨b, o + 1, none⟩) k (cap - 1)) W := by
  obtain ⟨i, hi, hsz⟩ := Option.map_eq_some_iff.1 sizeU8
  have e : (1 + (k : Int)).toNat = 1 + k := by omega
  have h0 : (0 : Int) ≤ 1 + (k : Int) := by omega
  have h1 : (1 : Int) ≤ 1 + (k : Int) := by omega
  have h2 : 1 + (k : Int) ≤ (cap : Int) := by omega
  have h3 : ¬ cap = 1 := by omega
  simp [Instr.sliceAt, Instr.slice, run_underlying Tryz.underlying32, Instr.sliceBounds, Instr.sliceBound, asIntOf, sizeOf, typeInfo, hi, hsz, h0, h1, h2, h3, e, Addr.add]

end Go.Proofs.YtehnhjnkbclnlaaGreatDoor
