/-
  R3: Layer 3, the document's answer (turntableref03): its number, Right, End and Less: what they answer, for every argument. Nothing is assumed.
  R3P: Layer 3, the document's answer (turntableref03): its Put: what it answers, for every argument. Nothing is assumed but that bytes lie in memory.
  R3G: Layer 3, the document's answer (turntableref03): its Get: what it answers, of any bytes. Nothing is assumed but that the bytes lie in memory.
-/
import Derived.Test.YthcchfhkeghkhaaSpanA
import Derived.Test.YthcchfhkeghkhaaSpanR
import Derived.Test.YthcchfhkeghkhaaSpanG
import Derived.Test.YthcchfhkeghkhaaRef1
import Derived.Test.YthcchfhkeghkhaaBase

namespace Go.Proofs.Ythcchfhkeghkhaa
open Go.RowKit
set_option maxRecDepth 100000

theorem rnumber_any (n : Int) (w : World) (b : Bool) (hb : Plain.inN 0 281474976710656 n = b) :
    Calls Try.prog 49 #[.int .i64 n] w fun e w' => e = .returned (.bool b) ∧ w = w' := by
  subst hb
  have HI := Lib.hid (Plain.inN_iff 0 281474976710656 n)
  by_cases h0 : 0 ≤ n
  · by_cases h1 : n ≤ 281474976710656
    · have HT := Lib.hid (HI.out.2 ⟨h0, h1⟩)
      go_enter Try.func49, Try.ntmps49
      go_wp2
      go_ret
      exact ⟨by rw [HT.out]; rfl, rfl⟩
    · have HT := Lib.hid (show Plain.inN 0 281474976710656 n = false by rw [Bool.eq_false_iff]; intro h; have := HI.out.1 h; omega)
      go_enter Try.func49, Try.ntmps49
      go_wp2
      go_ret
      exact ⟨by rw [HT.out]; rfl, rfl⟩
  · have HT := Lib.hid (show Plain.inN 0 281474976710656 n = false by rw [Bool.eq_false_iff]; intro h; have := HI.out.1 h; omega)
    go_enter Try.func49, Try.ntmps49
    go_wp2
    go_ret
    exact ⟨by rw [HT.out]; rfl, rfl⟩

theorem inN_out {lo hi x : Int} (h : Plain.inN lo hi x = false) : ¬ (lo ≤ x ∧ x ≤ hi) := fun h' => by rw [(Plain.inN_iff lo hi x).2 h'] at h; cases h

set_option maxHeartbeats 4000000 in
theorem rright_any (t i p s d : Int) (SV NM : ByteArray) (w : World) (R : Bool) (_hV : SV.size ≤ maxLen) (_hN : NM.size ≤ maxLen) (hR : Plain.rightN t i p s d SV.size NM.size = R) :
    Calls Try.prog 36 #[.agg #[.int .i64 t, .int .i64 i, .int .i64 p, .int .i64 s, .int .i64 d, .string SV, .string NM]] w fun e w' => e = .returned (.bool R) ∧ Below w.heap.size w w' := by
  unfold maxLen at _hV _hN
  have HI := Lib.hid (show ¬ (1 ≤ t ∧ t ≤ 281474976710656 ∧ 1 ≤ i ∧ i ≤ 281474976710656 ∧ 0 ≤ p ∧ p ≤ 281474976710656 ∧ 0 ≤ s ∧ s ≤ 281474976710656 ∧ 0 ≤ d ∧ d ≤ 281474976710656 ∧ s + d ≤ 281474976710656 ∧ 1 ≤ SV.size ∧ SV.size ≤ 32 ∧ NM.size ≤ 32) → R = false from fun h => by
    rw [← hR, Bool.eq_false_iff]; intro h'; exact h ((Plain.rightN_iff _ _ _ _ _ _ _).1 h'))
  have HT := Lib.hid (show (1 ≤ t ∧ t ≤ 281474976710656 ∧ 1 ≤ i ∧ i ≤ 281474976710656 ∧ 0 ≤ p ∧ p ≤ 281474976710656 ∧ 0 ≤ s ∧ s ≤ 281474976710656 ∧ 0 ≤ d ∧ d ≤ 281474976710656 ∧ s + d ≤ 281474976710656 ∧ 1 ≤ SV.size ∧ SV.size ≤ 32 ∧ NM.size ≤ 32) → R = true from fun h => by
    rw [← hR]; exact (Plain.rightN_iff _ _ _ _ _ _ _).2 h)
  clear hR
  go_enter Try.func36, Try.ntmps36
  go_wp2_with fail
  obtain ⟨b1, h1⟩ : ∃ b, Plain.inN 0 281474976710656 t = b := ⟨_, rfl⟩
  refine (rnumber_any t _ b1 h1).mono ?_
  rintro e w' ⟨rfl, rfl⟩
  rcases b1 with _ | _
  · have h1 := inN_out h1
    have HF := Lib.hid (HI.out (by omega))
    go_wp2
    go_ret
    exact ⟨by rw [HF.out]; rfl, by go_grown⟩
  have h1 := (Plain.inN_iff _ _ _).1 h1
  go_wp2_with fail
  obtain ⟨b1, h2⟩ : ∃ b, Plain.inN 0 281474976710656 i = b := ⟨_, rfl⟩
  refine (rnumber_any i _ b1 h2).mono ?_
  rintro e w' ⟨rfl, rfl⟩
  rcases b1 with _ | _
  · have h2 := inN_out h2
    have HF := Lib.hid (HI.out (by omega))
    go_wp2
    go_ret
    exact ⟨by rw [HF.out]; rfl, by go_grown⟩
  have h2 := (Plain.inN_iff _ _ _).1 h2
  go_wp2_with fail
  obtain ⟨b1, h3⟩ : ∃ b, Plain.inN 0 281474976710656 p = b := ⟨_, rfl⟩
  refine (rnumber_any p _ b1 h3).mono ?_
  rintro e w' ⟨rfl, rfl⟩
  rcases b1 with _ | _
  · have h3 := inN_out h3
    have HF := Lib.hid (HI.out (by omega))
    go_wp2
    go_ret
    exact ⟨by rw [HF.out]; rfl, by go_grown⟩
  have h3 := (Plain.inN_iff _ _ _).1 h3
  go_wp2_with fail
  obtain ⟨b1, h4⟩ : ∃ b, Plain.inN 0 281474976710656 s = b := ⟨_, rfl⟩
  refine (rnumber_any s _ b1 h4).mono ?_
  rintro e w' ⟨rfl, rfl⟩
  rcases b1 with _ | _
  · have h4 := inN_out h4
    have HF := Lib.hid (HI.out (by omega))
    go_wp2
    go_ret
    exact ⟨by rw [HF.out]; rfl, by go_grown⟩
  have h4 := (Plain.inN_iff _ _ _).1 h4
  go_wp2_with fail
  obtain ⟨b1, h5⟩ : ∃ b, Plain.inN 0 281474976710656 d = b := ⟨_, rfl⟩
  refine (rnumber_any d _ b1 h5).mono ?_
  rintro e w' ⟨rfl, rfl⟩
  rcases b1 with _ | _
  · have h5 := inN_out h5
    have HF := Lib.hid (HI.out (by omega))
    go_wp2
    go_ret
    exact ⟨by rw [HF.out]; rfl, by go_grown⟩
  have h5 := (Plain.inN_iff _ _ _).1 h5
  by_cases k1 : 1 ≤ t
  rotate_left
  · have HF := Lib.hid (HI.out (by omega))
    go_wp2
    go_ret
    exact ⟨by rw [HF.out]; rfl, by go_grown⟩
  by_cases k2 : 1 ≤ i
  rotate_left
  · have HF := Lib.hid (HI.out (by omega))
    go_wp2
    go_ret
    exact ⟨by rw [HF.out]; rfl, by go_grown⟩
  by_cases k3 : s + d ≤ 281474976710656
  rotate_left
  · have HF := Lib.hid (HI.out (by omega))
    go_wp2
    go_ret
    exact ⟨by rw [HF.out]; rfl, by go_grown⟩
  by_cases k4 : 1 ≤ SV.size
  rotate_left
  · have HF := Lib.hid (HI.out (by omega))
    go_wp2
    go_ret
    exact ⟨by rw [HF.out]; rfl, by go_grown⟩
  by_cases k5 : SV.size ≤ 32
  rotate_left
  · have HF := Lib.hid (HI.out (by omega))
    go_wp2
    go_ret
    exact ⟨by rw [HF.out]; rfl, by go_grown⟩
  by_cases k6 : NM.size ≤ 32
  rotate_left
  · have HF := Lib.hid (HI.out (by omega))
    have k6' : decide ((NM.size : Int) ≤ 32) = false := by simp; omega
    go_wp2
    go_ret
    exact ⟨by rw [HF.out]; rfl, by go_grown⟩
  have HF := Lib.hid (HT.out (by omega))
  have k6' : decide ((NM.size : Int) ≤ 32) = true := by simp; omega
  go_wp2
  go_ret
  exact ⟨by rw [HF.out]; rfl, by go_grown⟩

theorem rless_any (t i p s d : Int) (SV NM : ByteArray) (t' i' p' s' d' : Int) (SV' NM' : ByteArray) (w : World) :
    Calls Try.prog 37 #[.agg #[.int .i64 t, .int .i64 i, .int .i64 p, .int .i64 s, .int .i64 d, .string SV, .string NM], .agg #[.int .i64 t', .int .i64 i', .int .i64 p', .int .i64 s', .int .i64 d', .string SV', .string NM']] w fun e w' => e = .returned (.bool (lessN s i s' i')) ∧ Below w.heap.size w w' := by
  unfold lessN
  by_cases h : s = s'
  · subst h
    rw [if_pos rfl]
    go_enter Try.func37, Try.ntmps37
    go_wp2
    go_ret
    exact ⟨rfl, by go_grown⟩
  · rw [if_neg h]
    by_cases h2 : s < s'
    · go_enter Try.func37, Try.ntmps37
      go_wp2
      go_ret
      exact ⟨by simp [h2], by go_grown⟩
    · have hb : (s == s') = false := beq_eq_false_iff_ne.2 h
      go_enter Try.func37, Try.ntmps37
      go_wp2
      go_ret
      exact ⟨by simp [h2], by go_grown⟩
end Go.Proofs.Ythcchfhkeghkhaa

namespace Go.Proofs.Ythcchfhkeghkhaa
open Go.RowKit
set_option maxRecDepth 100000

/-- what a call hands back that makes bytes: memory of one's own, that holds just these -/
def Owns (w : World) (bs : List UInt8) (e : Ending) (w' : World) : Prop := ∃ v, e = .returned v ∧ (Fact.own bs).φ v w' ∧ Below w.heap.size w w'

theorem soft_second {w : World} {ρ : Operand → Value} {o : Oper} {x y : Operand} {f : FuncId} {ats : Array TypeId} {T1 T2 : List UInt8} {NM : ByteArray}
    (hf : ∀ f, ρ (.func f) = .func (.func f) #[] #[]) (hx : (Fact.own T1).φ (ρ x) w) (hy : ρ y = .string NM) (hc : ∀ (u : World) (A : Option Addr) (c : Nat), Lies u A (cells T1) → Calls Try.prog f #[.slice A T1.length c, .string NM] u (Made u T2))
    (ho : o.op = .call { callee := .value (.func f), args := #[x, y], argTypes := ats }) (hfn : (Try.prog.funcs[f]?).map (fun fn => (fn.name == "runtime.NumGoroutine", fn.body.isNone)) = some (false, false)) : softUpon Try.prog w (Fact.own T2) ((execOp ρ o).run Try.prog w) := by
  obtain ⟨B, n, h⟩ := hx
  obtain ⟨A, c, e, -, -, hl, hL⟩ := own_form h
  rw [cells_length] at hl
  subst hl
  exact soft_call2 hf e hy (hc w A c hL) ho hfn made_own

theorem load_str {W : World} {g j : Nat} {x : ByteArray} (h : W.cell? ⟨g, j, none⟩ = some (.string x)) :
    (Instr.loadAt 9 (.pointer (some ⟨g, j, none⟩))).run Try.prog W = .ok (.string x) W := by
  go_simp

set_option maxHeartbeats 4000000 in
theorem rspanPut_any (A : Option Addr) (n cap : Nat) (bs : List UInt8) (x : Plain.Sp) (w : World) (hn : bs.length = n) (hm : n ≤ 1000000) (hA : Lies w A (cells bs)) (hsv : x.sv.length ≤ maxLen) (hnm : x.nm.length ≤ maxLen) :
    Calls Try.prog 51 #[.slice A n cap, .agg #[.int .i64 x.t, .int .i64 x.i, .int .i64 x.p, .int .i64 x.s, .int .i64 x.d, .string (str x.sv), .string (str x.nm)]] w (Owns w (bs ++ x.outp)) := by
  obtain ⟨i0, hi, hz0, hz1, hz2⟩ := info_parts infoU8
  have hr : Plain.rightN x.t x.i x.p x.s x.d (str x.sv).size (str x.nm).size = x.right := by rw [str_size, str_size]; rfl
  have hout : x.outp = if x.right then x.bytes else [] := rfl
  rw [bytes_puts] at hout
  have hp1 := fun (u : World) (B : Option Addr) (c : Nat) (q : List UInt8) (hq : q.length ≤ 1099511627776) (h : Lies u B (cells q)) => rputText_any B c q x.sv u hq h hsv
  have hp2 := fun (u : World) (B : Option Addr) (c : Nat) (q : List UInt8) (hq : q.length ≤ 1099511627776) (h : Lies u B (cells q)) => rputText_any B c q x.nm u hq h hnm
  have hl1 := Plain.putText_small x.sv
  rw [← str_size x.sv] at hsv
  rw [← str_size x.nm] at hnm
  obtain ⟨t, i, p, s, d, sv, nm⟩ := x
  simp only at *
  have hts : putTs [sv, nm] = Plain.putText sv ++ Plain.putText nm := by simp [putTs]
  rw [hts] at hout
  generalize Plain.putText sv = P1 at *
  generalize Plain.putText nm = P2 at *
  generalize str sv = SV at *
  generalize str nm = NM at *
  generalize Plain.Sp.outp { t := t, i := i, p := p, s := s, d := d, sv := sv, nm := nm } = out at *
  generalize Plain.Sp.right { t := t, i := i, p := p, s := s, d := d, sv := sv, nm := nm } = R at *
  have HR := Lib.hid hr
  have HOUT := Lib.hid hout
  have HPT1 := Lib.hid hp1
  have HPT2 := Lib.hid hp2
  have HA := Lib.hid hA
  have HN := Lib.hid (show (cells bs).length = n by rw [cells_length, hn])
  have HNB := Lib.hid hn
  clear hr hout hp1 hp2 hA hn hts
  have bx := Blk.new w #[.int .i64 t, .int .i64 i, .int .i64 p, .int .i64 s, .int .i64 d, .string SV, .string NM] 45
  have k0 : Kept [] w (w.alloc (.cells #[.int .i64 t, .int .i64 i, .int .i64 p, .int .i64 s, .int .i64 d, .string SV, .string NM] 45)) := (Kept.refl _ _).alloc _
  have HBX := Lib.hid bx
  have HK := Lib.hid k0
  clear bx k0
  go_enter Try.func51, Try.ntmps51
  go_wp2_with (at_builtin; refine wpList_app rfl _ _ 68 rfl w.heap.size 5 i0 (.int .u8 0) Try.underlying68 hi hz0 hz1 hz2 rfl (.slice (some ⟨w.heap.size + 1, 0, none⟩) 0 0) 0 [] rfl ?a1 A n cap (cells bs) rfl ?a2 ?a3 (cells_one bs) ?a4 ?a5 ?a6)
  case a1 =>
    have := World.ownsRow_lit (base := w.heap.size) (e := 5) (size := 1) (w.alloc (.cells #[.int .i64 t, .int .i64 i, .int .i64 p, .int .i64 s, .int .i64 d, .string SV, .string NM] 45)) #[] 0 (by rw [World.size_alloc]; omega) (by unfold maxLen; omega) rfl
    simpa using this
  case a2 => exact HN.out
  case a3 => exact ((HA.out.keep (by simp) fun p hp => World.cell?_alloc_lt w _ p hp).keep (by simp) fun p hp => World.cell?_alloc_lt _ _ p hp)
  case a4 => omega
  case a5 => simp; omega
  case a6 =>
    intro v1 w1 hown1 hg1 hat1
    have kk : Kept [] (w.alloc (.cells #[.int .i64 t, .int .i64 i, .int .i64 p, .int .i64 s, .int .i64 d, .string SV, .string NM] 45)) w1 :=
      Kept.of (((Below.refl _ _).alloc (Nat.le_refl _) _).grown hg1 (by simp) (fun g hg => by simp [Value.ownBlock] at hg; simp; omega)) []
    have HOW := Lib.hid hown1
    clear hown1 hg1 hat1
    generalize w.alloc (.cells #[.int .i64 t, .int .i64 i, .int .i64 p, .int .i64 s, .int .i64 d, .string SV, .string NM] 45) = V at *
    have c1 : Below V.heap.size V w1 := kk.to
    clear kk
    have CX := Lib.hid (fun (u : World) (h : Below V.heap.size V u) => ((Kept.of h []).blk HBX.out (by simp)).seven)
    have HV := Lib.hid (show ∀ u, Below V.heap.size V u → Below w.heap.size w u from fun u h => HK.out.to.trans (h.mono HK.out.to.size))
    obtain ⟨x0, x1, x2, x3, x4, x5, x6⟩ := CX.out w1 c1
    go_wp2_with fail
    clear x0 x1 x2 x3 x4 x5 x6
    refine (rright_any t i p s d SV NM w1 R hsv hnm HR.out).mono ?_
    rintro e w2 ⟨rfl, d2⟩
    have c2 := c1.trans (d2.mono c1.size)
    have HOW2 := Lib.hid (own_keep HOW.out d2)
    rcases R with _ | _
    · go_wp2
      go_ret
      exact ⟨_, rfl, ⟨_, _, by rw [HOUT.out]; simpa using HOW2.out⟩, HV.out _ c2⟩
    obtain ⟨A2, cap2, rfl, hl2, hm2, -, hL2⟩ := own_form HOW2.out
    obtain ⟨x0, x1, x2, x3, x4, x5, x6⟩ := CX.out w2 c2
    go_wp2
    clear x0 x1 x2 x3 x4 x5 x6
    have c3 := c2.alloc c2.size (.cells #[.int .i64 t, .int .i64 i, .int .i64 p, .int .i64 s, .int .i64 d] 2)
    have hLi := lies_made w2 w2.heap.size (ints [t, i, p, s, d]) #[.int .i64 t, .int .i64 i, .int .i64 p, .int .i64 s, .int .i64 d] 2 rfl rfl
    have hL3 := hL2.keep (w' := w2.alloc (.cells #[.int .i64 t, .int .i64 i, .int .i64 p, .int .i64 s, .int .i64 d] 2)) (by simp) fun q hq => World.cell?_alloc_lt _ _ q hq
    generalize w2.alloc (.cells #[.int .i64 t, .int .i64 i, .int .i64 p, .int .i64 s, .int .i64 d] 2) = V3 at *
    generalize w2.heap.size = G3 at *
    generalize hns : [t, i, p, s, d] = ns at *
    have hnl : ns.length = 5 := by rw [← hns]; rfl
    clear hns
    go_loopw [5, 7] (fun b j wr => ∃ (k capr : Nat) (Ar : Option Addr), j = .int .i64 k ∧ k ≤ 5 ∧ b = .slice Ar (bs ++ puts (ns.take k)).length capr ∧ (bs ++ puts (ns.take k)).length ≤ capr ∧ capr ≤ maxLen ∧ Lies wr Ar (cells (bs ++ puts (ns.take k))) ∧ Below V3.heap.size V3 wr) (fun _ j _ => 5 - (intOf j).toNat)
    case atStart => exact ⟨0, cap2, A2, rfl, Nat.zero_le _, by simp [puts, HNB.out], by simpa [puts, HNB.out] using hl2, hm2, by simpa [puts] using hL3, Below.refl _ _⟩
    case round =>
      obtain ⟨k, capr, Ar, rfl, hk, rfl, hlr, hmr, hAr, hbr⟩ := hrel
      have HL := Lib.hid (show (bs ++ puts (ns.take k)).length ≤ 1000000 + 35 by
        have := puts_len (ns.take k); rw [List.length_append, HNB.out]; rw [List.length_take] at this; omega)
      by_cases hlt : k < 5
      · have hBr := hLi.below hbr
        obtain ⟨ad, had, hadb, hcell⟩ := hBr.at_ (k := k) (by rw [ints_length]; omega)
        obtain rfl : ad = ⟨G3, 0, none⟩ := by injection had with h; exact h.symm
        have hlx : k < ns.length := by omega
        have hcz : (ints ns)[k]'(by rw [ints_length]; exact hlx) = .int .i64 ns[k] := by simp [ints]
        rw [hcz] at hcell
        have HS := Lib.hid (show bs ++ puts (ns.take (k + 1)) = (bs ++ puts (ns.take k)) ++ Plain.put ns[k] by rw [puts_succ _ k hlx, List.append_assoc])
        have eA : (⟨G3, 0, none⟩ : Addr).add k = ⟨G3, k, none⟩ := by unfold Addr.add; split <;> simp_all
        have hcell' : wr.cell? ⟨G3, k, none⟩ = some (.int .i64 ns[k]) := by rw [eA] at hcell; exact hcell
        clear eA
        clear hcz hcell had
        generalize ns[k] = z at *
        generalize bs ++ puts (ns.take k) = cur at *
        go_wp2_with fail
        refine (rput_any Ar capr cur z _ (by have := HL.out; omega) hAr).mono ?_
        rintro e w4 ⟨v, rfl, hown, hb4⟩
        rw [← HS.out] at hown
        obtain ⟨A4, cap4, rfl, hc4, hm4, -, hL4⟩ := own_form hown
        clear hown
        go_wp2
        go_roundw
        case rel => exact ⟨k + 1, cap4, A4, by go_num, by omega, by rw [List.length_append], hc4, hm4, hL4, hbr.trans (hb4.mono hbr.size)⟩
        case measure => simp [intOf]; omega
      · obtain rfl : k = 5 := by omega
        rw [List.take_of_length_le (by omega)] at *
        have c5 := c3.trans (hbr.mono c3.size)
        have bx5 := (Kept.of c5 []).blk HBX.out (by simp)
        have hbd : Below wr.heap.size wr wr.drew := (Below.refl _ _).drew
        have LV := Lib.hid (fun (W : World) (h : Below wr.heap.size wr W) => load_str (((Kept.of h []).blk bx5 (by simp)).cell 5))
        have LN := Lib.hid (fun (W : World) (h : Below wr.heap.size wr W) => load_str (((Kept.of h []).blk bx5 (by simp)).cell 6))
        have HB := Lib.hid (show bs ++ out = (bs ++ puts ns) ++ P1 ++ P2 by rw [HOUT.out]; simp)
        generalize bs ++ puts ns = cur at *
        have HP1 := Lib.hid (fun (W : World) (h : Below wr.heap.size wr W) => HPT1.out W Ar capr cur (by have := HL.out; omega) (hAr.below h))
        have hT1 : (cur ++ P1).length ≤ 1099511627776 := by have := HL.out; rw [List.length_append]; omega
        have HP2 := Lib.hid (fun (W : World) (B : Option Addr) (c : Nat) (h : Lies W B (cells (cur ++ P1))) => HPT2.out W B c (cur ++ P1) hT1 h)
        rw [← HB.out] at HP2
        generalize cur ++ P1 = T1 at *
        generalize bs ++ out = T2 at *
        generalize cur.length = L5 at *
        generalize hN0 : w.heap.size = N0 at *
        have HN0 := Lib.hid hN0
        clear hN0
        clear hT1 bx5
        go_wp2
        refine wp_soft (by kernel_rfl) 43 [(36, [5]), (37, [3]), (38, [37]), (39, [36, 38]), (40, [3]), (41, [40]), (42, [39, 41]), (4, [42])]
          [Fact.is (.slice Ar L5 capr), Fact.is (.pointer (some ⟨N0, 5, none⟩)), Fact.is (.string SV), Fact.own T1, Fact.is (.pointer (some ⟨N0, 6, none⟩)), Fact.is (.string NM), Fact.own T2, Fact.own T2]
          (by kernel_rfl) rfl rfl ⟨?s0, ?s1, ?s2, ?s3, ?s4, ?s5, ?s6, ?s7, trivial⟩ ?fin
        case s0 =>
          intro ρ W hb hc hf hr
          obtain ⟨r5, -⟩ := hr
          have e5 : ρ (.tmp 5) = .slice Ar L5 capr := r5
          clear r5
          refine under_none rfl ?_
          exact ⟨e5, Below.refl _ _⟩
        case s1 =>
          intro ρ W hb hc hf hr
          obtain ⟨r3, -⟩ := hr
          have e3 : ρ (.tmp 3) = .pointer (some ⟨N0, 0, none⟩) := r3
          clear r3
          refine under_none rfl ?_
          simp [execOp, e3, go_sem, softUpon, Fact.is, Below.refl]
        case s2 =>
          intro ρ W hb hc hf hr
          obtain ⟨r37, -⟩ := hr
          have e37 : ρ (.tmp 37) = .pointer (some ⟨N0, 5, none⟩) := r37
          clear r37
          refine under_none rfl ?_
          exact soft_load e37 (LV.out W (hbd.trans (hb.mono (by simp)))) rfl
        case s3 =>
          intro ρ W hb hc hf hr
          obtain ⟨r36, r38, -⟩ := hr
          have e36 : ρ (.tmp 36) = .slice Ar L5 capr := r36
          clear r36
          have e38 : ρ (.tmp 38) = .string SV := r38
          clear r38
          refine under_none rfl ?_
          exact soft_call2 hf e36 e38 (HP1.out W (hbd.trans (hb.mono (by simp)))) rfl (by kernel_rfl) made_own
        case s4 =>
          intro ρ W hb hc hf hr
          obtain ⟨r3, -⟩ := hr
          have e3 : ρ (.tmp 3) = .pointer (some ⟨N0, 0, none⟩) := r3
          clear r3
          refine under_none rfl ?_
          simp [execOp, e3, go_sem, softUpon, Fact.is, Below.refl]
        case s5 =>
          intro ρ W hb hc hf hr
          obtain ⟨r40, -⟩ := hr
          have e40 : ρ (.tmp 40) = .pointer (some ⟨N0, 6, none⟩) := r40
          clear r40
          refine under_none rfl ?_
          exact soft_load e40 (LN.out W (hbd.trans (hb.mono (by simp)))) rfl
        case s6 =>
          intro ρ W hb hc hf hr
          obtain ⟨r39, r41, -⟩ := hr
          have e41 : ρ (.tmp 41) = .string NM := r41
          clear r41
          refine under_none rfl ?_
          exact soft_second hf r39 e41 HP2.out rfl (by kernel_rfl)
        case s7 =>
          intro ρ W hb hc hf hr
          obtain ⟨r42, -⟩ := hr
          refine under_none rfl ?_
          exact ⟨r42, Below.refl _ _⟩
        case fin =>
          intro a u4 hb hd hk
          have h4 : (Fact.own T2).φ (a.tmps.getD 4 undef) u4 := hk 4
          clear hk
          have c8 : Below V.heap.size V u4 := c5.trans ((hbd.trans (hb.mono (by simp))).mono c5.size)
          go_wp2
          refine bodyPost_ret (results_tmp rfl _ _ _) hd ?_
          exact ⟨_, rfl, h4, by rw [HN0.out]; exact HV.out _ c8⟩
end Go.Proofs.Ythcchfhkeghkhaa

namespace Go.Proofs.Ythcchfhkeghkhaa
open Go.RowKit
set_option maxRecDepth 100000

/-- the array's cells behind k numbers -/
def arrN (b : List UInt8) (k : Nat) : Array Value :=
  #[.int .i64 (if 0 < k then valN b 0 else 0 : Nat), .int .i64 (if 1 < k then valN b 1 else 0 : Nat), .int .i64 (if 2 < k then valN b 2 else 0 : Nat), .int .i64 (if 3 < k then valN b 3 else 0 : Nat), .int .i64 (if 4 < k then valN b 4 else 0 : Nat)]
theorem arrN_set (b : List UInt8) (k : Nat) (h : k < 5) : (arrN b k).setIfInBounds k (.int .i64 (valN b k)) = arrN b (k + 1) := by
  obtain rfl | rfl | rfl | rfl | rfl : k = 0 ∨ k = 1 ∨ k = 2 ∨ k = 3 ∨ k = 4 := by omega
  all_goals simp [arrN]
theorem arrN_at (b : List UInt8) (k : Nat) (h : k < 5) : ∃ x : Int, (arrN b k)[k]? = some (.int .i64 x) := by
  obtain rfl | rfl | rfl | rfl | rfl : k = 0 ∨ k = 1 ∨ k = 2 ∨ k = 3 ∨ k = 4 := by omega
  all_goals exact ⟨_, rfl⟩
theorem arrN_zero (b : List UInt8) : arrN b 0 = #[.int .i64 0, .int .i64 0, .int .i64 0, .int .i64 0, .int .i64 0] := by simp [arrN]
theorem arrN_five (b : List UInt8) : arrN b 5 = #[.int .i64 (valN b 0 : Nat), .int .i64 (valN b 1 : Nat), .int .i64 (valN b 2 : Nat), .int .i64 (valN b 3 : Nat), .int .i64 (valN b 4 : Nat)] := by simp [arrN]

theorem runN_stuck (b : List UInt8) (k j : Nat) (h : (runN b k).2 ≠ 0) (hj : k ≤ j) : (runN b j).2 = (runN b k).2 := by
  induction j with
  | zero => obtain rfl : k = 0 := by omega
            rfl
  | succ j ih =>
    rcases Nat.eq_or_lt_of_le hj with e | e
    · rw [e]
    · have := ih (by omega)
      show (Plain.stepN b (runN b j).1 (runN b j).2).2.2 = _
      rw [Plain.stepN_stuck _ _ _ (by omega)]
      exact this
theorem runT_stuck (b : List UInt8) (k j : Nat) (h : (runT b k).2 ≠ 0) (hj : k ≤ j) : (runT b j).2 = (runT b k).2 := by
  induction j with
  | zero => obtain rfl : k = 0 := by omega
            rfl
  | succ j ih =>
    rcases Nat.eq_or_lt_of_le hj with e | e
    · rw [e]
    · have := ih (by omega)
      show (Plain.stepT b (runT b j).1 (runT b j).2).2.2 = _
      rw [Plain.stepT_stuck _ _ _ (by omega)]
      exact this
theorem rd_errN (b : List UInt8) (k : Nat) (hk : k ≤ 5) (h : (runN b k).2 ≠ 0) : Plain.Sp.rd b = (Plain.Sp.zero, 0, (runN b k).2) := by
  have h5 := runN_stuck b k 5 h hk
  have h0 : (runT b 0).2 = (runN b 5).2 := rfl
  have h2 := runT_stuck b 0 2 (by rw [h0, h5]; exact h) (by omega)
  have he : endErr b = (runN b k).2 := by
    unfold endErr
    rw [if_neg (by rw [h2, h0, h5]; intro hc; exact h hc.1), h2, h0, h5]
  rw [rd_err b (by rw [he]; exact h), he]
theorem rd_errT (b : List UInt8) (k : Nat) (hk : k ≤ 2) (h : (runT b k).2 ≠ 0) : Plain.Sp.rd b = (Plain.Sp.zero, 0, (runT b k).2) := by
  have h2 := runT_stuck b k 2 h hk
  have he : endErr b = (runT b k).2 := by
    unfold endErr
    rw [if_neg (by rw [h2]; intro hc; exact h hc.1), h2]
  rw [rd_err b (by rw [he]; exact h), he]
theorem rd_errR (b : List UInt8) (h : (runT b 2).2 = 0) (hr : Plain.rightN (valN b 0) (valN b 1) (valN b 2) (valN b 3) (valN b 4) (str (valT b 0)).size (str (valT b 1)).size = false) : Plain.Sp.rd b = (Plain.Sp.zero, 0, 12) := by
  have he : endErr b = 12 := by rw [endErr_is, if_pos ⟨h, hr⟩]
  rw [rd_err b (by rw [he]; omega), he]
theorem rd_okR (b : List UInt8) (h : (runT b 2).2 = 0) (hr : Plain.rightN (valN b 0) (valN b 1) (valN b 2) (valN b 3) (valN b 4) (str (valT b 0)).size (str (valT b 1)).size = true) : Plain.Sp.rd b = (⟨valN b 0, valN b 1, valN b 2, valN b 3, valN b 4, valT b 0, valT b 1⟩, (runT b 2).1, 0) := by
  have he : endErr b = 0 := by rw [endErr_is, if_neg (by rw [hr]; simp), h]
  exact rd_ok b he

/-- what bytes begin with, so that no walk looks into it -/
def RdIs (b : List UInt8) (x : Plain.Sp) (n c : Nat) : Prop := ∀ q : Nat, c ≤ q → q ≤ c → Plain.Sp.rd b = (x, n, q)
theorem rd_far {b : List UInt8} {x : Plain.Sp} {n c : Nat} (h : Plain.Sp.rd b = (x, n, c)) : RdIs b x n c := fun q h1 h2 => by rw [h, Nat.le_antisymm h1 h2]
theorem rd_near {b : List UInt8} {x : Plain.Sp} {n c : Nat} (h : RdIs b x n c) : Plain.Sp.rd b = (x, n, c) := h c (Nat.le_refl _) (Nat.le_refl _)
theorem text_step (bs : List UInt8) (j : Nat) (he : (runT bs j).2 = 0) :
    ((Plain.getText (bs.drop (runT bs j).1)).2.2 = 0 ∧ valT bs j = (Plain.getText (bs.drop (runT bs j).1)).1 ∧ (runT bs (j + 1)).1 = (runT bs j).1 + (Plain.getText (bs.drop (runT bs j).1)).2.1 ∧ (runT bs (j + 1)).2 = 0) ∨ ((Plain.getText (bs.drop (runT bs j).1)).2.2 ≠ 0 ∧ (runT bs (j + 1)).2 = (Plain.getText (bs.drop (runT bs j).1)).2.2) := by
  have hst : Plain.stepT bs (runT bs j).1 (runT bs j).2 = (valT bs j, (runT bs (j + 1)).1, (runT bs (j + 1)).2) := rfl
  rw [he] at hst
  unfold Plain.stepT at hst
  rw [if_neg (by omega)] at hst
  split at hst
  · rename_i h
    simp only [Prod.mk.injEq] at hst
    exact .inr ⟨h, hst.2.2.symm⟩
  · rename_i h
    simp only [Prod.mk.injEq] at hst
    exact .inl ⟨by omega, hst.1.symm, hst.2.1.symm, hst.2.2.symm⟩
/-- where the bytes stand from a place on -/
def cutA (A : Option Addr) (cap o : Nat) : Option Addr := if cap = o then A else A.map (·.add o)
theorem slice_lo (A : Option Addr) (n cap o : Nat) (W : World) (h1 : o ≤ n) (h2 : n ≤ cap) (hm : cap ≤ maxLen) : (Instr.sliceAt 68 (.slice A n cap) (some (.int .i64 (o : Int))) none none).run Try.prog W = .ok (.slice (cutA A cap o) (n - o) (cap - o)) W := by
  unfold cutA
  unfold maxLen at hm
  by_cases hca : cap = o
  · subst hca
    obtain rfl : n = cap := by omega
    rw [if_pos rfl]
    go_simp
  · rw [if_neg hca]
    go_simp

end Go.Proofs.Ythcchfhkeghkhaa
