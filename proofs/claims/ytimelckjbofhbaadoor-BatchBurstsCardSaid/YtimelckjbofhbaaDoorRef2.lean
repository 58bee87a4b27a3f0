/-
  R2: Layer 2, the document's answer (turntableref02): what its More, Of, Seal and Open answer, of any bytes. Assumed: at most 2^40 bytes, and that they lie in memory.
  R2S: Layer 2, the document's answer (turntableref02): what its Seal and Open answer, of any bytes. Assumed: at most 2^40 bytes, and that they lie in memory.
  Head2: Layer 2: the laws' live question (turntablelaw02.head) answers true, and turns nothing that was there. Assumed: that the program's table holds what its text lays there.
-/
import Derived.Test.YtimelckjbofhbaaDoorCrcC
import Derived.Test.YtimelckjbofhbaaDoorBase
import Derived.Deep.QuietTactic
import Derived.BigQuiet
import Derived.Lib.SmallJoins

namespace Go.Proofs.YtimelckjbofhbaaDoor
open Go.RowKit
set_option maxRecDepth 100000

theorem shr_one (r : Nat) (hr : r < 4294967296) : BitVec.ofNat 32 (r / 2) = BitVec.ofNat 32 r >>> 1 := by
  apply BitVec.eq_of_toNat_eq
  rw [BitVec.toNat_ushiftRight, BitVec.toNat_ofNat, BitVec.toNat_ofNat, Nat.mod_eq_of_lt hr, Nat.shiftRight_eq_div_pow, Nat.mod_eq_of_lt (by omega)]
theorem lsb_nat (r : Nat) : (BitVec.ofNat 32 r).getLsbD 0 = decide (r % 2 = 1) := by
  rw [BitVec.getLsbD_ofNat]; simp [Nat.testBit_zero]
theorem bitIn_nat (r : Nat) (b : Bool) : Crc.bitIn (BitVec.ofNat 32 r) b = (BitVec.ofNat 32 r >>> 1) ^^^ (if (decide (r % 2 = 1) ^^ b) then Crc.poly else 0#32) := by
  unfold Crc.bitIn Crc.step
  have h1 : (if b then 1#32 else 0#32) >>> 1 = 0#32 := by cases b <;> decide
  have h2 : (if b then 1#32 else 0#32).getLsbD 0 = b := by cases b <;> decide
  rw [BitVec.ushiftRight_xor_distrib, h1, BitVec.xor_zero, BitVec.getLsbD_xor, h2, lsb_nat]
/-- one bit goes in, as the document's answer has it -/
theorem bit_u32 (r β : Nat) (hr : r < 4294967296) (b : Bool) (hb : β = if b then 1 else 0) : ∃ (o : Bool) (y : Nat), (((r : Int) % 2) != (β : Int)) = o ∧ bits .xor .u32 ((r : Int) / 2) 2197175160 = (y : Int) ∧ y < 4294967296 ∧
    (o = false → BitVec.ofNat 32 (r / 2) = Crc.bitIn (BitVec.ofNat 32 r) b) ∧ (o = true → BitVec.ofNat 32 y = Crc.bitIn (BitVec.ofNat 32 r) b) := by
  have hq : (r : Int) / 2 = ((r / 2 : Nat) : Int) := by omega
  have ho : (((r : Int) % 2) != (β : Int)) = (decide (r % 2 = 1) ^^ b) := by
    rw [hb]
    have h2 : r % 2 = 0 ∨ r % 2 = 1 := by omega
    rcases h2 with h | h
    · have h3 : (r : Int) % 2 = 0 := by omega
      rw [h3, h]; cases b <;> decide
    · have h3 : (r : Int) % 2 = 1 := by omega
      rw [h3, h]; cases b <;> decide
  refine ⟨_, (r / 2) ^^^ 2197175160, ho, ?_, Nat.xor_lt_two_pow (n := 32) (by omega) (by omega), fun h => ?_, fun h => ?_⟩
  · rw [hq]; exact xor_u32 _ 2197175160 (by omega) (by omega)
  · rw [bitIn_nat, h, shr_one r hr]; simp
  · rw [bitIn_nat, h, ofNat_xor, shr_one r hr]; rfl
theorem bitval (c e : Nat) : ((c : Int) / 2 ^ e).tmod 2 = ((if c.testBit e then 1 else 0 : Nat) : Int) := by
  have h : (c : Int) / 2 ^ e = ((c / 2 ^ e : Nat) : Int) := by rw [Int.natCast_ediv, Int.natCast_pow]; rfl
  rw [h, Nat.testBit_eq_decide_div_mod_eq]
  generalize c / 2 ^ e = y
  rw [Int.tmod_eq_emod_of_nonneg (by omega)]
  by_cases h1 : y % 2 = 1
  · simp [h1]; omega
  · simp [h1]; omega

theorem rMore_walk (s : Nat) (hs : s < 4294967296) (A : Option Addr) (cap L : Nat) (bs : List UInt8) (w : World) (hL : bs.length = L) (hm : L ≤ 1099511627776) (hA : Lies w A (cells bs)) :
    Calls Tryd.prog 51 #[.int .u32 (s : Int), .slice A L cap] w fun e w' => e = .returned (.int .u32 ((Crc.more (BitVec.ofNat 32 s) bs).toNat : Int)) ∧ w = w' := by
  obtain ⟨n0, hn, h0, e0⟩ := not_u32 s hs
  have E0 := Lib.hid e0
  have HL := Lib.hid hL
  clear e0 hL
  go_enter Tryd.func51, Tryd.ntmps51
  go_wp2
  go_loop [5, 6] (fun vr vi => ∃ n i : Nat, vr = .int .u32 (n : Int) ∧ vi = .int .i64 i ∧ i ≤ 8 * L ∧ n < 4294967296 ∧ BitVec.ofNat 32 n = Crc.runBits (~~~ BitVec.ofNat 32 s) ((Crc.bitsOf bs).take i)) (fun _ vi => 8 * L - (intOf vi).toNat)
  case atStart => exact ⟨n0, 0, rfl, rfl, by omega, h0, by rw [E0.out]; rfl⟩
  case round =>
    obtain ⟨r, i, rfl, rfl, hi, hr, he⟩ := hrel
    have HE := Lib.hid he
    clear he
    by_cases hlt : i < 8 * L
    · obtain ⟨q, hq⟩ : ∃ q, i / 8 = q := ⟨_, rfl⟩
      obtain ⟨e, he⟩ : ∃ e, i % 8 = e := ⟨_, rfl⟩
      have hqz : (i : Int) / 8 = (q : Int) := by omega
      have hez : (i : Int) % 8 = (e : Int) := by omega
      have hql : q < L := by omega
      have he8 : e < 8 := by omega
      have hqb : q < bs.length := by rw [HL.out]; exact hql
      obtain ⟨ad, rfl, hb, hcell⟩ := hA.at_ (k := q) (by rw [cells_length]; exact hqb)
      rw [cells_at bs q hqb] at hcell
      have hbit : (Crc.bitsOf bs)[i]? = some (bs[q].toNat.testBit e) := by subst hq he; exact Crc.bitsOf_at bs i hqb
      have hβ := bitval bs[q].toNat e
      have hc := bs[q].toNat_lt
      obtain ⟨o, y, ho, hx, hy, f0, f1⟩ := bit_u32 r (if bs[q].toNat.testBit e then 1 else 0) hr (bs[q].toNat.testBit e) rfl
      have HN := Lib.hid (show ∀ z : Nat, BitVec.ofNat 32 z = Crc.bitIn (BitVec.ofNat 32 r) (bs[q].toNat.testBit e) → BitVec.ofNat 32 z = Crc.runBits (~~~ BitVec.ofNat 32 s) ((Crc.bitsOf bs).take (i + 1)) by
        intro z hz
        have hlen : i < (Crc.bitsOf bs).length := by rw [Crc.bitsOf_length, HL.out]; exact hlt
        rw [List.take_succ_eq_append_getElem hlen, hz, HE.out]
        have : (Crc.bitsOf bs)[i] = bs[q].toNat.testBit e := by rw [List.getElem?_eq_getElem hlen] at hbit; exact Option.some.inj hbit
        rw [this]
        simp [Crc.runBits])
      have hβ1 : (if bs[q].toNat.testBit e then 1 else 0 : Nat) ≤ 1 := by split <;> omega
      generalize (if bs[q].toNat.testBit e then 1 else 0 : Nat) = β at *
      have F0 := Lib.hid (fun h => HN.out _ (f0 h))
      have F1 := Lib.hid (fun h => HN.out _ (f1 h))
      clear HN f0 f1 hbit HE hq he
      generalize bs[q].toNat = c at hcell hβ hc
      cases o
      · go_wp2
        go_round
        case rel => exact ⟨r / 2, i + 1, by go_num, by go_num, by omega, by omega, F0.out rfl⟩
        case measure => simp [intOf]; omega
      · go_wp2
        go_round
        case rel => exact ⟨y, i + 1, rfl, by go_num, by omega, hy, F1.out rfl⟩
        case measure => simp [intOf]; omega
    · obtain rfl : i = 8 * L := by omega
      obtain ⟨n1, x1, h1, e1⟩ := not_u32 r hr
      have HF := Lib.hid (show (n1 : Int) = ((Crc.more (BitVec.ofNat 32 s) bs).toNat : Int) by
        unfold Crc.more
        rw [Crc.run_bits]
        have h2 := HE.out
        rw [List.take_of_length_le (by rw [Crc.bitsOf_length, HL.out]; exact Nat.le_refl _)] at h2
        rw [← h2, ← e1, BitVec.toNat_ofNat, Nat.mod_eq_of_lt h1])
      clear e1 HE
      go_wp2
      go_ret
      exact ⟨ret_int HF.out, rfl⟩

theorem rOf_walk (A : Option Addr) (cap L : Nat) (bs : List UInt8) (w : World) (hL : bs.length = L) (hm : L ≤ 1099511627776) (hA : Lies w A (cells bs)) :
    Calls Tryd.prog 31 #[.slice A L cap] w fun e w' => e = .returned (.int .u32 ((Crc.of bs).toNat : Int)) ∧ w = w' := by
  have H := Lib.hid (rMore_walk 0 (by omega) A cap L bs w hL hm hA)
  rw [show Crc.more (BitVec.ofNat 32 0) bs = Crc.of bs from rfl] at H
  generalize (Crc.of bs).toNat = n at *
  clear hL
  go_enter Tryd.func31, Tryd.ntmps31
  go_wp2_with fail
  refine H.out.mono ?_
  rintro e w' ⟨rfl, rfl⟩
  go_wp2
  go_ret
  exact ⟨rfl, rfl⟩
end Go.Proofs.YtimelckjbofhbaaDoor

namespace Go.Proofs.YtimelckjbofhbaaDoor
open Go.RowKit
set_option maxRecDepth 100000

theorem cells_sum (S : BitVec 32) : cells (Crc.sumBytes S) = [.int .u8 ((S.toNat : Int) % 256), .int .u8 ((S.toNat : Int) / 256 % 256), .int .u8 ((S.toNat : Int) / 65536 % 256), .int .u8 ((S.toNat : Int) / 16777216)] := by
  have h0 := byte_at S.toNat 0
  have h1 := byte_at S.toNat 8
  have h2 := byte_at S.toNat 16
  have h3 := byte_at S.toNat 24
  have e : ∀ j, (S >>> j).toNat = S.toNat / 2 ^ j := fun j => by rw [BitVec.toNat_ushiftRight, Nat.shiftRight_eq_div_pow]
  simp only [Int.reducePow, Nat.reducePow, Int.ediv_one, Nat.div_one] at h0 h1 h2 h3
  have h4 : (S.toNat : Int) / 16777216 % 256 = (S.toNat : Int) / 16777216 := by have := S.isLt; omega
  rw [h4] at h3
  simp only [cells, Crc.sumBytes, List.map_cons, List.map_nil, e, Nat.reducePow, ← h0, ← h1, ← h2, ← h3]

theorem rSeal_walk (A : Option Addr) (cap L : Nat) (bs : List UInt8) (w : World) (hL : bs.length = L) (hm : L ≤ 1099511627776) (hA : Lies w A (cells bs)) :
    Calls Tryd.prog 16 #[.slice A L cap] w (Made w (Crc.sealed bs)) := by
  obtain ⟨i0, hi, hz0, hz1, hz2⟩ := info_parts infoU8
  have H := Lib.hid (rOf_walk A cap L bs w hL hm hA)
  have HL := Lib.hid hL
  have HS := Lib.hid (cells_sum (Crc.of bs))
  have hs := (Crc.of bs).isLt
  generalize (Crc.of bs).toNat = sn at *
  clear hL
  go_enter Tryd.func16, Tryd.ntmps16
  go_wp2_with fail
  refine H.out.mono ?_
  rintro e w' ⟨rfl, rfl⟩
  go_wp2_with (at_builtin; refine wpList_app rfl _ _ 23 rfl w.heap.size 5 i0 (.int .u8 0) Tryd.underlying23 hi hz0 hz1 hz2 rfl (.slice (some ⟨w.heap.size, 0, none⟩) 0 0) 0 [] rfl ?a1 A L cap (cells bs) rfl ?a2 ?a3 (cells_one bs) ?a4 ?a5 ?a6)
  case a1 => exact World.ownsRow_lit w #[] 0 (Nat.le_refl _) (by unfold maxLen; omega) rfl
  case a2 => rw [cells_length, HL.out]
  case a3 => exact hA.keep (by simp) fun p hp => World.cell?_alloc_lt w _ p hp
  case a4 => omega
  case a5 => simp
  case a6 =>
    intro v1 w2 hown1 hg1 hat1
    have b2 : Below w.heap.size w w2 := ((Below.refl _ _).alloc (Nat.le_refl _) _).grown hg1 (by simp) (fun g hg => by simp [Value.ownBlock] at hg; omega)
    have HO1 := Lib.hid hown1
    clear hown1 hg1 hat1
    go_wp2_with (at_builtin; refine wpList_app rfl _ _ 23 rfl w.heap.size 5 i0 (.int .u8 0) Tryd.underlying23 hi hz0 hz1 hz2 rfl v1 L (cells bs) rfl ?b1 (some ⟨w2.heap.size, 0, none⟩) 4 4 [.int .u8 ((sn : Int) % 256), .int .u8 ((sn : Int) / 256 % 256), .int .u8 ((sn : Int) / 65536 % 256), .int .u8 ((sn : Int) / 16777216)] rfl rfl ?b3 ?b3b ?b4 ?b5 ?b6)
    case b1 => exact HO1.out.alloc _
    case b3 => exact Lies.new w2 _ 5
    case b3b => simp [Value.oneCell']
    case b4 => omega
    case b5 => have := b2.size; simp; omega
    case b6 =>
      intro v2 w3 hown2 hg2 hat2
      have b3 : Below w.heap.size w w3 := (b2.alloc b2.size _).grown hg2 (by have := b2.size; simp; omega) (fun g hg => (HO1.out.lt g hg).1)
      have HO2 := Lib.hid (show w3.ownsRow w.heap.size 5 1 v2 (Crc.sealed bs).length (cells (Crc.sealed bs)) by
        rw [Crc.sealed_length, HL.out, Crc.sealed, cells_append, HS.out]; exact hown2)
      clear hown2 hg2 hat2
      go_wp2
      go_ret
      exact ⟨_, rfl, HO2.out, b3⟩

/-- what the document's Open hands back -/
def ROpened (w : World) (bs : List UInt8) (e : Ending) (w' : World) : Prop :=
  Below w.heap.size w w' ∧
  ((Crc.opens bs ∧ ∃ v, e = .returned (.tuple #[v, .bool true]) ∧ w'.ownsRow w.heap.size 5 1 v (bs.length - 4) (cells (bs.take (bs.length - 4)))) ∨
   (¬ Crc.opens bs ∧ e = .returned (.tuple #[.slice none 0 0, .bool false])))

set_option maxHeartbeats 1000000 in
set_option maxRecDepth 100000 in
theorem rOpen_walk (A : Option Addr) (cap L : Nat) (bs : List UInt8) (w : World) (hL : bs.length = L) (hm : L ≤ 1099511627776) (hc : L ≤ cap) (hA : Lies w A (cells bs)) :
    Calls Tryd.prog 23 #[.slice A L cap] w (ROpened w bs) := by
  obtain ⟨i0, hi, hz0, hz1, hz2⟩ := info_parts infoU8
  by_cases h4 : L < 4
  · have HNO := Lib.hid (show ¬ Crc.opens bs from fun h => by have := h.1; omega)
    clear hL
    have hd : decide ((L : Int) - 4 < 0) = true := by simp; omega
    go_enter Tryd.func23, Tryd.ntmps23
    go_wp2
    go_quiet (fail)
    go_wp2
    go_ret2
    exact ⟨below_many (Below.refl _ _) _, .inr ⟨HNO.out, rfl⟩⟩
  · obtain ⟨n, rfl⟩ : ∃ n, L = n + 4 := ⟨L - 4, by omega⟩
    have HLT := Lib.hid (show (bs.take n).length = n by rw [List.length_take]; omega)
    have HLN := Lib.hid (show bs.length - 4 = n by omega)
    have HCB := Lib.hid (fun (u : World) (h : Lies u A (cells bs)) => conv_str (P := Tryd.prog) (c := cap) h 23 5 Tryd.underlying23 Tryd.underlying5 9 Tryd.underlying9)
    rw [hL] at HCB
    have hAt : Lies w A (cells (bs.take n)) := by have := hA.take n; rwa [cells_take] at this
    have HSE := Lib.hid (fun (u : World) (hu : Below w.heap.size w u) => rSeal_walk A cap n (bs.take n) u HLT.out (by omega) (hAt.below hu))
    have HOP := Lib.hid (show Crc.opens bs ↔ Crc.sealed (bs.take n) = bs from ⟨fun h => by have := h.2; rw [HLN.out] at this; exact this.symm, fun h => ⟨by omega, by rw [HLN.out]; exact h.symm⟩⟩)
    have hslice : ∀ W : World, (Instr.sliceAt 23 (.slice A (n + 4) cap) none (some (.int .i64 (n : Int))) none).run Tryd.prog W = .ok (.slice A n cap) W := by
      intro W
      have hjc : n ≤ cap := by omega
      go_simp
    have HBS := Lib.hid (beq_str (Crc.sealed (bs.take n)) bs)
    have hAd : Lies w.drew A (cells bs) := hA
    have hbd : Below w.heap.size w w.drew := (Below.refl _ _).drew
    generalize Crc.sealed (bs.take n) = Z at *
    clear hL
    by_cases h : Z = bs
    · have hne : (!((str Z).toList == (str bs).toList)) = false := by rw [HBS.out]; simp [h]
      have HO := Lib.hid (HOP.out.2 h)
      clear h HBS HOP
      generalize str bs = SB at *
      go_enter Tryd.func23, Tryd.ntmps23
      go_wp2
      refine wp_softS (by kernel_rfl) 25 [(8, [4]), (9, [8]), (10, [9]), (11, [0, 10]), (12, [4, 10]), (13, [11, 12, 10]), (14, [13, 10]), (15, [14, 10]), (16, [0, 10]), (17, [16, 10]), (18, [15, 17, 10]), (19, [10, 18])]
        [Fact.is (.int .i64 n), Fact.is (.bool false), Fact.is (.bool false), Fact.is (.slice A (n + 4) cap), Fact.is (.int .i64 n), Fact.is (.slice A n cap), Fact.own Z, Fact.is (.string (str Z)), Fact.is (.slice A (n + 4) cap), Fact.is (.string SB), Fact.is (.bool false), Fact.is (.bool false)]
        (by kernel_rfl) rfl rfl ⟨?s0, ?s1, ?s2, ?s3, ?s4, ?s5, ?s6, ?s7, ?s8, ?s9, ?s10, ?s11, trivial⟩ ?fin
      case s0 =>
        intro ρ W hb hc hf hr
        obtain ⟨r4, -⟩ := hr
        have e4 : ρ (.tmp 4) = .int .i64 n := r4
        clear r4
        refine under_none rfl ?_
        exact ⟨e4, Below.refl _ _⟩
      case s1 =>
        intro ρ W hb hc hf hr
        obtain ⟨r8, -⟩ := hr
        have e8 : ρ (.tmp 8) = .int .i64 n := r8
        clear r8
        refine under_none rfl ?_
        simp [execOp, e8, hc, go_sem, softUpon, Fact.is, Below.refl]
      case s2 =>
        intro ρ W hb hc hf hr
        obtain ⟨r9, -⟩ := hr
        have e9 : ρ (.tmp 9) = .bool false := r9
        clear r9
        refine under_none rfl ?_
        exact ⟨e9, Below.refl _ _⟩
      case s3 =>
        intro ρ W hb hc hf hr
        obtain ⟨r0, r10, -⟩ := hr
        have e0 : ρ (.tmp 0) = .slice A (n + 4) cap := r0
        clear r0
        have e10 : ρ (.tmp 10) = .bool false := r10
        clear r10
        refine ⟨10, rfl, .inl ⟨e10, ?_⟩⟩
        exact ⟨e0, Below.refl _ _⟩
      case s4 =>
        intro ρ W hb hc hf hr
        obtain ⟨r4, r10, -⟩ := hr
        have e4 : ρ (.tmp 4) = .int .i64 n := r4
        clear r4
        have e10 : ρ (.tmp 10) = .bool false := r10
        clear r10
        refine ⟨10, rfl, .inl ⟨e10, ?_⟩⟩
        exact ⟨e4, Below.refl _ _⟩
      case s5 =>
        intro ρ W hb hc hf hr
        obtain ⟨r11, r12, r10, -⟩ := hr
        have e11 : ρ (.tmp 11) = .slice A (n + 4) cap := r11
        clear r11
        have e12 : ρ (.tmp 12) = .int .i64 n := r12
        clear r12
        have e10 : ρ (.tmp 10) = .bool false := r10
        clear r10
        refine ⟨10, rfl, .inl ⟨e10, ?_⟩⟩
        exact soft_slice e11 e12 (hslice W) rfl
      case s6 =>
        intro ρ W hb hc hf hr
        obtain ⟨r13, r10, -⟩ := hr
        have e13 : ρ (.tmp 13) = .slice A n cap := r13
        clear r13
        have e10 : ρ (.tmp 10) = .bool false := r10
        clear r10
        refine ⟨10, rfl, .inl ⟨e10, ?_⟩⟩
        exact soft_call1 hf e13 (HSE.out W (hbd.trans (hb.mono (by simp)))) rfl (by kernel_rfl) made_own
      case s7 =>
        intro ρ W hb hc hf hr
        obtain ⟨r14, r10, -⟩ := hr
        have e10 : ρ (.tmp 10) = .bool false := r10
        clear r10
        refine ⟨10, rfl, .inl ⟨e10, ?_⟩⟩
        exact soft_own r14 rfl
      case s8 =>
        intro ρ W hb hc hf hr
        obtain ⟨r0, r10, -⟩ := hr
        have e0 : ρ (.tmp 0) = .slice A (n + 4) cap := r0
        clear r0
        have e10 : ρ (.tmp 10) = .bool false := r10
        clear r10
        refine ⟨10, rfl, .inl ⟨e10, ?_⟩⟩
        exact ⟨e0, Below.refl _ _⟩
      case s9 =>
        intro ρ W hb hc hf hr
        obtain ⟨r16, r10, -⟩ := hr
        have e16 : ρ (.tmp 16) = .slice A (n + 4) cap := r16
        clear r16
        have e10 : ρ (.tmp 10) = .bool false := r10
        clear r10
        refine ⟨10, rfl, .inl ⟨e10, ?_⟩⟩
        exact soft_conv e16 (HCB.out W (hAd.below hb)) rfl
      case s10 =>
        intro ρ W hb hc hf hr
        obtain ⟨r15, r17, r10, -⟩ := hr
        have e15 : ρ (.tmp 15) = .string (str Z) := r15
        clear r15
        have e17 : ρ (.tmp 17) = .string SB := r17
        clear r17
        have e10 : ρ (.tmp 10) = .bool false := r10
        clear r10
        refine ⟨10, rfl, .inl ⟨e10, ?_⟩⟩
        exact soft_bin e15 e17 rfl rfl (by rw [binOp_string_neq, hne]; rfl)
      case s11 =>
        intro ρ W hb hc hf hr
        obtain ⟨r10, r18, -⟩ := hr
        have e10 : ρ (.tmp 10) = .bool false := r10
        clear r10
        have e18 : ρ (.tmp 18) = .bool false := r18
        clear r18
        refine under_none rfl ?_
        simp [execOp, e10, e18, hc, go_sem, softUpon, Fact.is, Below.refl]
      case fin =>
        intro a w1 hb hd hsz hk
        have ea := act_puts hd hsz rfl hk
        have k8 : a.tmps.getD 8 undef = .int .i64 n := hk 8
        have k9 : a.tmps.getD 9 undef = .bool false := hk 9
        have k10 : a.tmps.getD 10 undef = .bool false := hk 10
        have k11 : a.tmps.getD 11 undef = .slice A (n + 4) cap := hk 11
        have k12 : a.tmps.getD 12 undef = .int .i64 n := hk 12
        have k13 : a.tmps.getD 13 undef = .slice A n cap := hk 13
        have k14 : (Fact.own Z).φ (a.tmps.getD 14 undef) w1 := hk 14
        have k15 : a.tmps.getD 15 undef = .string (str Z) := hk 15
        have k16 : a.tmps.getD 16 undef = .slice A (n + 4) cap := hk 16
        have k17 : a.tmps.getD 17 undef = .string SB := hk 17
        have k18 : a.tmps.getD 18 undef = .bool false := hk 18
        have k19 : a.tmps.getD 19 undef = .bool false := hk 19
        clear hk hd hsz
        simp only [List.map_cons, List.map_nil, List.foldl_cons, List.foldl_nil, k8, k9, k10, k11, k12, k13, k15, k16, k17, k18, k19] at ea
        clear k8 k9 k10 k11 k12 k13 k15 k16 k17 k18 k19
        generalize a.tmps.getD 14 undef = v14 at ea k14
        simp only [Act.put, List.setIfInBounds_toArray, List.set_cons_succ, List.set_cons_zero] at ea
        subst ea
        have b1 : Below w.heap.size w w1 := hbd.trans (hb.mono (by simp))
        have A1 := Lib.hid (hAt.below b1)
        go_wp2_with (at_builtin; refine wpList_app rfl _ _ 23 rfl w1.heap.size 5 i0 (.int .u8 0) Tryd.underlying23 hi hz0 hz1 hz2 rfl (.slice (some ⟨w1.heap.size, 0, none⟩) 0 0) 0 [] rfl ?a1 A n cap (cells (bs.take n)) rfl ?a2 ?a3 (cells_one _) ?a4 ?a5 ?a6)
        case a1 => exact World.ownsRow_lit w1 #[] 0 (Nat.le_refl _) (by unfold maxLen; omega) rfl
        case a2 => rw [cells_length, HLT.out]
        case a3 => exact A1.out.keep (by simp) fun p hp => World.cell?_alloc_lt w1 _ p hp
        case a4 => omega
        case a5 => simp
        case a6 =>
          intro v1 w2 hown1 hg1 hat1
          have b2 : Below w1.heap.size w1 w2 := ((Below.refl _ _).alloc (Nat.le_refl _) _).grown hg1 (by simp) (fun g hg => by simp [Value.ownBlock] at hg; omega)
          have HO1 := Lib.hid hown1
          clear hown1 hg1 hat1
          go_wp2
          go_ret2
          refine ⟨b1.trans (b2.mono b1.size), .inl ⟨HO.out, v1, rfl, ?_⟩⟩
          rw [HLN.out]
          exact Joins.ownsRow_le HO1.out b1.size
    · have hne : (!((str Z).toList == (str bs).toList)) = true := by rw [HBS.out]; simp [h]
      have HO := Lib.hid (fun e => h (HOP.out.1 e))
      clear h HBS HOP
      generalize str bs = SB at *
      go_enter Tryd.func23, Tryd.ntmps23
      go_wp2
      refine wp_softS (by kernel_rfl) 25 [(8, [4]), (9, [8]), (10, [9]), (11, [0, 10]), (12, [4, 10]), (13, [11, 12, 10]), (14, [13, 10]), (15, [14, 10]), (16, [0, 10]), (17, [16, 10]), (18, [15, 17, 10]), (19, [10, 18])]
        [Fact.is (.int .i64 n), Fact.is (.bool false), Fact.is (.bool false), Fact.is (.slice A (n + 4) cap), Fact.is (.int .i64 n), Fact.is (.slice A n cap), Fact.own Z, Fact.is (.string (str Z)), Fact.is (.slice A (n + 4) cap), Fact.is (.string SB), Fact.is (.bool true), Fact.is (.bool true)]
        (by kernel_rfl) rfl rfl ⟨?s0, ?s1, ?s2, ?s3, ?s4, ?s5, ?s6, ?s7, ?s8, ?s9, ?s10, ?s11, trivial⟩ ?fin
      case s0 =>
        intro ρ W hb hc hf hr
        obtain ⟨r4, -⟩ := hr
        have e4 : ρ (.tmp 4) = .int .i64 n := r4
        clear r4
        refine under_none rfl ?_
        exact ⟨e4, Below.refl _ _⟩
      case s1 =>
        intro ρ W hb hc hf hr
        obtain ⟨r8, -⟩ := hr
        have e8 : ρ (.tmp 8) = .int .i64 n := r8
        clear r8
        refine under_none rfl ?_
        simp [execOp, e8, hc, go_sem, softUpon, Fact.is, Below.refl]
      case s2 =>
        intro ρ W hb hc hf hr
        obtain ⟨r9, -⟩ := hr
        have e9 : ρ (.tmp 9) = .bool false := r9
        clear r9
        refine under_none rfl ?_
        exact ⟨e9, Below.refl _ _⟩
      case s3 =>
        intro ρ W hb hc hf hr
        obtain ⟨r0, r10, -⟩ := hr
        have e0 : ρ (.tmp 0) = .slice A (n + 4) cap := r0
        clear r0
        have e10 : ρ (.tmp 10) = .bool false := r10
        clear r10
        refine ⟨10, rfl, .inl ⟨e10, ?_⟩⟩
        exact ⟨e0, Below.refl _ _⟩
      case s4 =>
        intro ρ W hb hc hf hr
        obtain ⟨r4, r10, -⟩ := hr
        have e4 : ρ (.tmp 4) = .int .i64 n := r4
        clear r4
        have e10 : ρ (.tmp 10) = .bool false := r10
        clear r10
        refine ⟨10, rfl, .inl ⟨e10, ?_⟩⟩
        exact ⟨e4, Below.refl _ _⟩
      case s5 =>
        intro ρ W hb hc hf hr
        obtain ⟨r11, r12, r10, -⟩ := hr
        have e11 : ρ (.tmp 11) = .slice A (n + 4) cap := r11
        clear r11
        have e12 : ρ (.tmp 12) = .int .i64 n := r12
        clear r12
        have e10 : ρ (.tmp 10) = .bool false := r10
        clear r10
        refine ⟨10, rfl, .inl ⟨e10, ?_⟩⟩
        exact soft_slice e11 e12 (hslice W) rfl
      case s6 =>
        intro ρ W hb hc hf hr
        obtain ⟨r13, r10, -⟩ := hr
        have e13 : ρ (.tmp 13) = .slice A n cap := r13
        clear r13
        have e10 : ρ (.tmp 10) = .bool false := r10
        clear r10
        refine ⟨10, rfl, .inl ⟨e10, ?_⟩⟩
        exact soft_call1 hf e13 (HSE.out W (hbd.trans (hb.mono (by simp)))) rfl (by kernel_rfl) made_own
      case s7 =>
        intro ρ W hb hc hf hr
        obtain ⟨r14, r10, -⟩ := hr
        have e10 : ρ (.tmp 10) = .bool false := r10
        clear r10
        refine ⟨10, rfl, .inl ⟨e10, ?_⟩⟩
        exact soft_own r14 rfl
      case s8 =>
        intro ρ W hb hc hf hr
        obtain ⟨r0, r10, -⟩ := hr
        have e0 : ρ (.tmp 0) = .slice A (n + 4) cap := r0
        clear r0
        have e10 : ρ (.tmp 10) = .bool false := r10
        clear r10
        refine ⟨10, rfl, .inl ⟨e10, ?_⟩⟩
        exact ⟨e0, Below.refl _ _⟩
      case s9 =>
        intro ρ W hb hc hf hr
        obtain ⟨r16, r10, -⟩ := hr
        have e16 : ρ (.tmp 16) = .slice A (n + 4) cap := r16
        clear r16
        have e10 : ρ (.tmp 10) = .bool false := r10
        clear r10
        refine ⟨10, rfl, .inl ⟨e10, ?_⟩⟩
        exact soft_conv e16 (HCB.out W (hAd.below hb)) rfl
      case s10 =>
        intro ρ W hb hc hf hr
        obtain ⟨r15, r17, r10, -⟩ := hr
        have e15 : ρ (.tmp 15) = .string (str Z) := r15
        clear r15
        have e17 : ρ (.tmp 17) = .string SB := r17
        clear r17
        have e10 : ρ (.tmp 10) = .bool false := r10
        clear r10
        refine ⟨10, rfl, .inl ⟨e10, ?_⟩⟩
        exact soft_bin e15 e17 rfl rfl (by rw [binOp_string_neq, hne]; rfl)
      case s11 =>
        intro ρ W hb hc hf hr
        obtain ⟨r10, r18, -⟩ := hr
        have e10 : ρ (.tmp 10) = .bool false := r10
        clear r10
        have e18 : ρ (.tmp 18) = .bool true := r18
        clear r18
        refine under_none rfl ?_
        simp [execOp, e10, e18, hc, go_sem, softUpon, Fact.is, Below.refl]
      case fin =>
        intro a w1 hb hd hsz hk
        have ea := act_puts hd hsz rfl hk
        have k8 : a.tmps.getD 8 undef = .int .i64 n := hk 8
        have k9 : a.tmps.getD 9 undef = .bool false := hk 9
        have k10 : a.tmps.getD 10 undef = .bool false := hk 10
        have k11 : a.tmps.getD 11 undef = .slice A (n + 4) cap := hk 11
        have k12 : a.tmps.getD 12 undef = .int .i64 n := hk 12
        have k13 : a.tmps.getD 13 undef = .slice A n cap := hk 13
        have k14 : (Fact.own Z).φ (a.tmps.getD 14 undef) w1 := hk 14
        have k15 : a.tmps.getD 15 undef = .string (str Z) := hk 15
        have k16 : a.tmps.getD 16 undef = .slice A (n + 4) cap := hk 16
        have k17 : a.tmps.getD 17 undef = .string SB := hk 17
        have k18 : a.tmps.getD 18 undef = .bool true := hk 18
        have k19 : a.tmps.getD 19 undef = .bool true := hk 19
        clear hk hd hsz
        simp only [List.map_cons, List.map_nil, List.foldl_cons, List.foldl_nil, k8, k9, k10, k11, k12, k13, k15, k16, k17, k18, k19] at ea
        clear k8 k9 k10 k11 k12 k13 k15 k16 k17 k18 k19
        generalize a.tmps.getD 14 undef = v14 at ea k14
        simp only [Act.put, List.setIfInBounds_toArray, List.set_cons_succ, List.set_cons_zero] at ea
        subst ea
        have b1 : Below w.heap.size w w1 := hbd.trans (hb.mono (by simp))
        go_wp2
        go_ret2
        exact ⟨b1, .inr ⟨HO.out, rfl⟩⟩
end Go.Proofs.YtimelckjbofhbaaDoor

namespace Go.Proofs.YtimelckjbofhbaaDoor
open Go.RowKit

theorem Tab.alloc {w : World} (h : Tab w) (o : Obj) : Tab (w.alloc o) := h.below ((Below.refl w.heap.size w).alloc (Nat.le_refl _) o) (Nat.le_refl _)
/-- Seal, once more, with the answer's form -/
theorem seal_is (A : Option Addr) (cap n : Nat) (bs : List UInt8) (w : World) (hn : bs.length = n) (hm : n ≤ 1099511627776) (hA : Lies w A (cells bs)) (hT : Tab w) :
    Calls Tryd.prog 29 #[.slice A n cap] w fun e w' => ∃ g c, e = .returned (.slice (some ⟨g, 0, none⟩) (n + 4) c) ∧ n + 4 ≤ c ∧ c ≤ maxLen ∧ w'.ownsRow w.heap.size 5 1 (.slice (some ⟨g, 0, none⟩) (n + 4) c) (n + 4) (cells (Crc.sealed bs)) ∧ Below w.heap.size w w' := by
  subst hn
  refine (seal_walk A cap bs w hm hA hT).mono ?_
  rintro e w' ⟨v, rfl, ho, hb⟩
  rw [Crc.sealed_length] at ho
  rcases ho.2 with ⟨_, h0⟩ | ⟨g, c, cur, rfl, _, _, h2, h3, _⟩
  · omega
  · exact ⟨g, c, rfl, h2, h3, ho, hb⟩
theorem of_is (A : Option Addr) (cap n : Nat) (bs : List UInt8) (x : Int) (w : World) (hn : bs.length = n) (hm : n ≤ 1099511627776) (hx : ((Crc.of bs).toNat : Int) = x) (hA : Lies w A (cells bs)) (hT : Tab w) :
    Calls Tryd.prog 49 #[.slice A n cap] w fun e w' => e = .returned (.int .u32 x) ∧ w = w' := by
  subst hn hx
  exact of_walk A cap bs w (by unfold maxLen; omega) hA hT
theorem more_is (s : Nat) (hs : s < 4294967296) (A : Option Addr) (cap n : Nat) (bs : List UInt8) (x : Int) (w : World) (hn : bs.length = n) (hm : n ≤ 1099511627776) (hx : ((Crc.more (BitVec.ofNat 32 s) bs).toNat : Int) = x) (hA : Lies w A (cells bs)) (hT : Tab w) :
    Calls Tryd.prog 64 #[.int .u32 (s : Int), .slice A n cap] w fun e w' => e = .returned (.int .u32 x) ∧ w = w' := by
  subst hn hx
  exact more_walk s hs A cap bs w (by unfold maxLen; omega) hA hT
/-- a sum as a number -/
theorem ofNat_of (x : BitVec 32) : BitVec.ofNat 32 x.toNat = x := by rw [BitVec.ofNat_toNat, BitVec.setWidth_eq]
theorem open_yes (A : Option Addr) (cap n : Nat) (bs : List UInt8) (w : World) (hn : bs.length = n + 4) (hm : n + 4 ≤ 1099511627776) (hc : n + 4 ≤ cap) (hA : Lies w A (cells bs)) (hT : Tab w) (ho : Crc.opens bs) :
    Calls Tryd.prog 34 #[.slice A (n + 4) cap] w fun e w' => ∃ g c, e = .returned (.tuple #[.slice (some ⟨g, 0, none⟩) n n, .bool true]) ∧ w'.ownsRow w.heap.size 5 1 (.slice (some ⟨g, 0, none⟩) (n + 4) c) (n + 4) (cells bs) ∧ Below w.heap.size w w' := by
  refine (open_four A cap n bs w hn hm hc hA hT).mono ?_
  rintro e w' ⟨hb, h⟩
  rcases h with ⟨_, g, c, rfl, hw⟩ | ⟨h, _⟩
  · rw [hn] at hw
    exact ⟨g, c, by rw [hn, Nat.add_sub_cancel], hw, hb⟩
  · exact absurd ho h
theorem open_no (A : Option Addr) (cap n : Nat) (bs : List UInt8) (w : World) (hn : bs.length = n) (hm : n ≤ 1099511627776) (hc : n ≤ cap) (hA : Lies w A (cells bs)) (hT : Tab w) (ho : ¬ Crc.opens bs) :
    Calls Tryd.prog 34 #[.slice A n cap] w fun e w' => e = .returned (.tuple #[.slice none 0 0, .bool false]) ∧ Below w.heap.size w w' := by
  refine (open_walk A cap n bs w hn hm hc hA hT).mono ?_
  rintro e w' ⟨hb, h⟩
  rcases h with ⟨h, _⟩ | ⟨_, rfl⟩
  · exact absurd h ho
  · exact ⟨rfl, hb⟩

theorem lies_lit (w : World) (cs : Array Value) (fr : Nat × Nat) (bs : List UInt8) (h : cells bs = cs.toList) : Lies (w.alloc (.cells cs 5 fr)) (some ⟨w.heap.size, 0, none⟩) (cells bs) := by
  rw [h]; exact .inr ⟨_, rfl, by simp, World.news_of_block (heap_alloc_new w _)⟩
theorem conv_own {w : World} {g n c B : Nat} {bs : List UInt8} (h : w.ownsRow B 5 1 (.slice (some ⟨g, 0, none⟩) n c) n (cells bs)) : (convert 23 9 (.slice (some ⟨g, 0, none⟩) n c)).run Tryd.prog w = .ok (.string (str bs)) w :=
  own_str h _ Tryd.underlying23 Tryd.underlying5 _ Tryd.underlying9
/-- string(x), x what Open handed back -/
theorem conv_open {w : World} {g n c B : Nat} {bs : List UInt8} (h : w.ownsRow B 5 1 (.slice (some ⟨g, 0, none⟩) (n + 4) c) (n + 4) (cells bs)) : (convert 23 9 (.slice (some ⟨g, 0, none⟩) n n)).run Tryd.prog w = .ok (.string (str (bs.take n))) w :=
  conv_take (Lies.own h) n n (by have := h.1; rw [cells_length] at this; omega)

/-- make([]byte, n) -/
theorem make_bytes (u : World) (n : Nat) (h : n ≤ 1099511627776) : (Instr.makeSlice 23 (.int .i64 (n : Int)) (.int .i64 (n : Int))).run Tryd.prog u =
      .ok (.slice (some ⟨u.heap.size, 0, none⟩) n n) (u.alloc (.cells (List.replicate n (.int .u8 0)).toArray 5)) := by
  obtain ⟨i0, hi, hz0, hz1, hz2⟩ := info_parts infoU8
  have h := run_make (P := Tryd.prog) u 23 5 i0 (.int .u8 0) Tryd.underlying23 hi hz0 .i64 .i64 (n : Int) (n : Int) (by omega) (by omega) (by rw [hz2]; omega) (by omega)
  rw [Int.toNat_natCast] at h
  rw [← toList_madeCells_one]
  simpa [hz1, Value.cells] using h
def digits : List UInt8 := [49, 50, 51, 52, 53, 54, 55, 56, 57]

end Go.Proofs.YtimelckjbofhbaaDoor
