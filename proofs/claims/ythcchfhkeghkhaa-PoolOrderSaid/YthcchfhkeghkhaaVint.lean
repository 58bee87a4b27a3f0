/-
  VSize: Layer 1: what bits.Len64 and vint.Size answer, for every argument. Nothing is assumed.
  VErr: Layer 1: errors.Is of a vint.fault, and vint.errno: which of api's errors a fault wraps. Nothing is assumed.
  VNum: Layer 1: what vint.number and vint.Get answer, of any bytes. Nothing is assumed but that the bytes lie in memory.
  VGet: Layer 1: what vint.Get, vint.text and vint.GetText answer, of any bytes. Nothing is assumed but that the bytes lie in memory.
  VPut: Layer 1: what vint.grown and vint.Put answer, of any bytes and any integer: new memory, with the number's bytes behind b's; nothing that was there has turned. Assumed: b is at most 2^40 bytes long.
  VUse: Layer 1: the contracts of vint's calls once more, with the answers named, as laws use them. Nothing is assumed but that the bytes lie in memory.
-/
import Derived.Test.YthcchfhkeghkhaaBase
import Derived.Test.YthcchfhkeghkhaaMath
import Derived.WalkKit
import Derived.Handy
import Derived.Lib.Hide
import Derived.Test.YthcchfhkeghkhaaChecked
import Derived.LaidEql
import Derived.Stop.Asserts
import Derived.RowKitTokens
import Derived.Maps.AppendAt
import Derived.Laws.CopyOwn
import Derived.Lib.AppendStr

namespace Go.Proofs.Ythcchfhkeghkhaa
open Go.RowKit

theorem size_no (n : Int) (w : World) (h : n < 0 ∨ 281474976710656 < n) :
    Calls Try.prog 91 #[.int .i64 n] w fun e w' => e = .returned (.int .i64 0) ∧ w = w' := by
  rcases h with h | h
  · go_enter Try.func91, Try.ntmps91
    go_wp2
    go_ret
    exact ⟨rfl, rfl⟩
  · have h' : ¬ n < 0 := by omega
    go_enter Try.func91, Try.ntmps91
    go_wp2
    go_ret
    exact ⟨rfl, rfl⟩

/-- how many bits a byte has, and so on upward -/
def bl8 (x : Nat) : Nat := if x < 1 then 0 else if x < 2 then 1 else if x < 4 then 2 else if x < 8 then 3 else if x < 16 then 4 else if x < 32 then 5 else if x < 64 then 6 else if x < 128 then 7 else 8
theorem tab_at (t : ByteArray) (ht : (List.range 256).all (fun i => (t.data.getD i 0).toNat == bl8 i) = true) (x : Nat) (h : x < 256) (h' : x < t.size) : t[x].toNat = bl8 x := by
  rw [List.all_eq_true] at ht
  have := ht x (by simpa using h)
  have hx : x < t.data.size := h'
  rw [Array.getD_eq_getD_getElem?, Array.getElem?_eq_getElem hx] at this
  have h2 : t.data[x].toNat = bl8 x := by simpa using this
  exact h2
theorem bl8_le (x : Nat) : bl8 x ≤ 8 := by
  unfold bl8; repeat' split
  all_goals omega
theorem tab_close (t : ByteArray) (ht : (List.range 256).all (fun i => (t.data.getD i 0).toNat == bl8 i) = true) (K : Int) (y : Int) (hK0 : 0 ≤ K) (hK : K ≤ 56) (h0 : 0 ≤ y) (h : y < 256) (h' : y.toNat < t.size) :
    wrap64 (K + wrap64 ((t[y.toNat].toNat : Nat) : Int)) = K + (bl8 y.toNat : Int) := by
  rw [tab_at t ht y.toNat (by omega) h']
  have := bl8_le y.toNat
  rw [IntWalk.wrap64_in (bl8 y.toNat : Int) (by omega), IntWalk.wrap64_in _ (by omega)]
theorem tab_close0 (t : ByteArray) (ht : (List.range 256).all (fun i => (t.data.getD i 0).toNat == bl8 i) = true) (y : Int) (h0 : 0 ≤ y) (h : y < 256) (h' : y.toNat < t.size) :
    wrap64 (wrap64 ((t[y.toNat].toNat : Nat) : Int)) = (bl8 y.toNat : Int) := by
  rw [tab_at t ht y.toNat (by omega) h']
  have := bl8_le y.toNat
  rw [IntWalk.wrap64_in (bl8 y.toNat : Int) (by omega), IntWalk.wrap64_in _ (by omega)]

/-- how many bits, as Len64 parts it -/
def bl (x : Int) : Int :=
  if 4294967296 ≤ x then (if 65536 ≤ x / 4294967296 then 48 + bl8 (x / 4294967296 / 65536).toNat else if 256 ≤ x / 4294967296 then 40 + bl8 (x / 4294967296 / 256).toNat else 32 + bl8 (x / 4294967296).toNat)
  else if 65536 ≤ x then (if 256 ≤ x / 65536 then 24 + bl8 (x / 65536 / 256).toNat else 16 + bl8 (x / 65536).toNat)
  else if 256 ≤ x then 8 + bl8 (x / 256).toNat else bl8 x.toNat

set_option maxRecDepth 100000 in
theorem len64_any (x : Int) (w : World) (h0 : 0 ≤ x) (h1 : x ≤ 562949953421311) :
    Calls Try.prog 70 #[.int .u64 x] w fun e w' => e = .returned (.int .i64 (bl x)) ∧ w = w' := by
  go_enter Try.func70, Try.ntmps70
  go_wp2
  all_goals go_ret
  all_goals refine ⟨ret_int ?_, rfl⟩
  all_goals unfold bl
  · rw [if_pos (by omega), if_pos (by omega)]; exact tab_close _ (by decide +kernel) _ _ (by omega) (by omega) (by omega) (by omega) _
  · rw [if_pos (by omega), if_neg (by omega), if_pos (by omega)]; exact tab_close _ (by decide +kernel) _ _ (by omega) (by omega) (by omega) (by omega) _
  · rw [if_pos (by omega), if_neg (by omega), if_neg (by omega)]; exact tab_close _ (by decide +kernel) _ _ (by omega) (by omega) (by omega) (by omega) _
  · rw [if_neg (by omega), if_pos (by omega), if_pos (by omega)]; exact tab_close _ (by decide +kernel) _ _ (by omega) (by omega) (by omega) (by omega) _
  · rw [if_neg (by omega), if_pos (by omega), if_neg (by omega)]; exact tab_close _ (by decide +kernel) _ _ (by omega) (by omega) (by omega) (by omega) _
  · rw [if_neg (by omega), if_neg (by omega), if_pos (by omega)]; exact tab_close _ (by decide +kernel) _ _ (by omega) (by omega) (by omega) (by omega) _
  · rw [if_neg (by omega), if_neg (by omega), if_neg (by omega)]; exact tab_close0 _ (by decide +kernel) _ (by omega) (by omega) _

/-- n | 1 -/
theorem or1 (n : Nat) : (n ||| 1) / 2 = n / 2 ∧ (n ||| 1) % 2 = 1 := by
  refine ⟨?_, ?_⟩
  · have := Nat.or_div_two_pow (n := 1) (a := n) (b := 1); simpa using this
  · rw [Nat.or_mod_two_eq_one]; right; rfl
theorem bl8_cases (y : Nat) : (y < 1 ∧ bl8 y = 0) ∨ (1 ≤ y ∧ y < 2 ∧ bl8 y = 1) ∨ (2 ≤ y ∧ y < 4 ∧ bl8 y = 2) ∨ (4 ≤ y ∧ y < 8 ∧ bl8 y = 3) ∨ (8 ≤ y ∧ y < 16 ∧ bl8 y = 4) ∨ (16 ≤ y ∧ y < 32 ∧ bl8 y = 5) ∨ (32 ≤ y ∧ y < 64 ∧ bl8 y = 6) ∨ (64 ≤ y ∧ y < 128 ∧ bl8 y = 7) ∨ (128 ≤ y ∧ bl8 y = 8) := by
  unfold bl8
  repeat' split
  all_goals omega
theorem sz_cases (n : Nat) : (n < 128 ∧ Plain.sz n = 1) ∨ (128 ≤ n ∧ n < 16384 ∧ Plain.sz n = 2) ∨ (16384 ≤ n ∧ n < 2097152 ∧ Plain.sz n = 3) ∨ (2097152 ≤ n ∧ n < 268435456 ∧ Plain.sz n = 4) ∨ (268435456 ≤ n ∧ n < 34359738368 ∧ Plain.sz n = 5) ∨ (34359738368 ≤ n ∧ n < 4398046511104 ∧ Plain.sz n = 6) ∨ (4398046511104 ≤ n ∧ Plain.sz n = 7) := by
  unfold Plain.sz
  repeat' split
  all_goals omega
theorem sz_bl (n : Nat) (x : Int) (hn : n ≤ 281474976710656) (hx0 : 0 ≤ x) (hx1 : x / 2 = n / 2) (hx2 : x % 2 = 1) : (bl x + 6) / 7 = Plain.sz n ∧ 0 ≤ bl x ∧ bl x ≤ 64 := by
  have hs := sz_cases n
  generalize Plain.sz n = q at *
  unfold bl
  split
  · split
    · have hb := bl8_cases (x / 4294967296 / 65536).toNat; generalize hq : bl8 (x / 4294967296 / 65536).toNat = z at *; clear hq; omega
    · split
      · have hb := bl8_cases (x / 4294967296 / 256).toNat; generalize hq : bl8 (x / 4294967296 / 256).toNat = z at *; clear hq; omega
      · have hb := bl8_cases (x / 4294967296).toNat; generalize hq : bl8 (x / 4294967296).toNat = z at *; clear hq; omega
  · split
    · split
      · have hb := bl8_cases (x / 65536 / 256).toNat; generalize hq : bl8 (x / 65536 / 256).toNat = z at *; clear hq; omega
      · have hb := bl8_cases (x / 65536).toNat; generalize hq : bl8 (x / 65536).toNat = z at *; clear hq; omega
    · split
      · have hb := bl8_cases (x / 256).toNat; generalize hq : bl8 (x / 256).toNat = z at *; clear hq; omega
      · have hb := bl8_cases x.toNat; generalize hq : bl8 x.toNat = z at *; clear hq; omega

theorem size_yes (n : Nat) (w : World) (h : n ≤ 281474976710656) :
    Calls Try.prog 91 #[.int .i64 n] w fun e w' => e = .returned (.int .i64 (Plain.sz n)) ∧ w = w' := by
  have h1 := or1 n
  have hs := sz_bl n ((n ||| 1 : Nat) : Int) h (by omega) (by omega) (by omega)
  have ho : bits .or .u64 (n : Int) 1 = ((n ||| 1 : Nat) : Int) := u64_or_nat n 1 (by omega) (by omega)
  have hb : (n ||| 1) ≤ 562949953421311 := by omega
  have HO := Lib.hid ho
  have H1 := Lib.hid h1
  have HS := Lib.hid hs
  clear ho h1 hs
  generalize (n ||| 1 : Nat) = x at *
  go_enter Try.func91, Try.ntmps91
  go_wp2_with fail
  rw [HO.out]
  refine (len64_any (x : Int) _ (by omega) (by omega)).mono ?_
  rintro e w' ⟨rfl, rfl⟩
  have hb0 := HS.out.2.1
  have hb1 := HS.out.2.2
  go_wp2
  go_ret
  refine ⟨ret_int ?_, rfl⟩
  have := HS.out.1
  omega

/-- Size, of any integer. -/
theorem size_any (n : Int) (w : World) : Calls Try.prog 91 #[.int .i64 n] w fun e w' => e = .returned (.int .i64 (Plain.size n)) ∧ w = w' := by
  unfold Plain.size
  split
  · rename_i h
    obtain ⟨m, rfl⟩ := Int.eq_ofNat_of_zero_le h.1
    exact size_yes m w (by omega)
  · exact size_no n w (by omega)
end Go.Proofs.Ythcchfhkeghkhaa

namespace Go.Proofs.Ythcchfhkeghkhaa
open Go.RowKit Go.Extern.Stop Go.Stop Go.Extern
set_option maxRecDepth 100000

/-- '==' of two interface values of one integer type: as their numbers are. -/
theorem eqlIn_ints {P : Program} (w : World) (d : Nat) {ti tn : TypeId} {ms : Array (String × TypeId)} {i : TypeInfo} {k : IntKind} (a b : Int)
    (hi : P.underlying ti = some (.interface ms)) (hn : P.underlying tn = some (.int k)) (hinfo : P.info? tn = some i) (hcomp : i.comparable = true) :
    (Op.equalIn (d + 2) ti (.iface tn (.int k a)) (.iface tn (.int k b))).run P w = .ok (a == b) w := by
  simp [Op.equalIn, run_underlying hi, run_underlying hn, typeInfo, hinfo, hcomp]
theorem eql_ints {P : Program} (w : World) {ti tn : TypeId} {ms : Array (String × TypeId)} {i : TypeInfo} {k : IntKind} (a b : Int)
    (hi : P.underlying ti = some (.interface ms)) (hn : P.underlying tn = some (.int k)) (hinfo : P.info? tn = some i) (hcomp : i.comparable = true) :
    (binOp .eql ti (.iface tn (.int k a)) (.iface tn (.int k b))).run P w = .ok (.bool (a == b)) w := by
  simp only [binOp]
  simp [Op.equal, Op.maxDepth, eqlIn_ints w 9998 a b hi hn hinfo hcomp]

theorem isComp : (Try.prog.info? 36).map (·.comparable) = some true := by kernel_rfl
end Go.Proofs.Ythcchfhkeghkhaa

namespace Go.Proofs.Ythcchfhkeghkhaa
open Go.RowKit
set_option maxRecDepth 100000

def NumRel (bs : List UInt8) (o n i : Value) : Prop := ∃ (b : Bool) (k acc : Nat), o = .bool b ∧ n = .int .i64 acc ∧ i = .int .i64 k ∧ k ≤ 7 ∧ k ≤ bs.length ∧
  ((b = true ∧ acc < 128 ^ k ∧ Plain.get bs = Plain.getL (7 - k) (bs.drop k) k acc) ∨ (b = false ∧ 1 ≤ k ∧ acc < 562949953421312 ∧ Plain.get bs = if Plain.size acc = k then (acc, k, 0) else (0, 0, 12)))
theorem and128_lo (c : Nat) (h : c < 128) : bits .and .u8 (c : Int) 128 = 0 := by
  have := u8_and_nat c 128 (by omega) (by omega)
  have e : c &&& 128 = 0 := by have := nat_bit 7 c; simp at this; rw [this]; omega
  rw [e] at this; simpa using this
theorem and128_hi (d : Nat) (h : d < 128) : bits .and .u8 ((d + 128 : Nat) : Int) 128 = 128 := by
  have := u8_and_nat (d + 128) 128 (by omega) (by omega)
  have e : (d + 128) &&& 128 = 128 := by have := nat_bit 7 (d + 128); simp at this; rw [this]; omega
  rw [e] at this; simpa using this
theorem and127_hi (d : Nat) (h : d < 128) : bits .and .u8 ((d + 128 : Nat) : Int) 127 = d := by
  have := u8_and_nat (d + 128) 127 (by omega) (by omega)
  have e : (d + 128) &&& 127 = d := by rw [nat_mask7]; omega
  rw [e] at this; simpa using this

theorem or_i64 (a b : Nat) (ha : a < 4611686018427387904) (hb : b < 4611686018427387904) : bits .or .i64 (a : Int) (b : Int) = ((a ||| b : Nat) : Int) := by
  have hx : a ||| b < 2 ^ 62 := Nat.or_lt_two_pow (by omega) (by omega)
  have e : ∀ c : Nat, c < 4611686018427387904 → (BitVec.ofInt 64 (c : Int)).toNat = c := fun c hc => by
    rw [BitVec.ofInt_natCast, BitVec.toNat_ofNat]; exact Nat.mod_eq_of_lt (by omega)
  show IntKind.i64.wrap ((BitVec.ofInt 64 (a : Int) ||| BitVec.ofInt 64 (b : Int)).toNat : Int) = _
  rw [BitVec.toNat_or, e a ha, e b hb, IntKind.wrap_i64]
  omega
theorem pow128 (k : Nat) : 2 ^ (7 * k) = 128 ^ k := by rw [Nat.pow_mul]
theorem pow128_le (k : Nat) (h : k ≤ 7) : 128 ^ k ≤ 562949953421312 := by
  have : 128 ^ k ≤ 128 ^ 7 := Nat.pow_le_pow_right (by omega) h
  omega
/-- a group joins the ones below it -/
theorem join (acc c k : Nat) (hk : k < 7) (ha : acc < 128 ^ k) (hc : c < 128) :
    bits .or .i64 (acc : Int) (wrap64 ((c : Int) * 2 ^ (7 * k))) = ((acc + c * 128 ^ k : Nat) : Int) ∧ acc + c * 128 ^ k < 128 ^ (k + 1) := by
  have h1 := pow128_le (k + 1) (by omega)
  have h2 : c * 128 ^ k + 128 ^ k ≤ 128 ^ (k + 1) := by
    have : (c + 1) * 128 ^ k ≤ 128 * 128 ^ k := Nat.mul_le_mul_right _ (by omega)
    rw [Nat.add_mul] at this
    rw [Nat.pow_succ]; omega
  have e : ((c : Int) * 2 ^ (7 * k)) = ((c * 128 ^ k : Nat) : Int) := by
    rw [← pow128, Int.natCast_mul, Int.natCast_pow]; rfl
  have hj : c * 128 ^ k ||| acc = c * 128 ^ k + acc := nat_join (7 * k) _ _ (by rw [pow128]; exact Nat.mul_mod_left _ _) (by rw [pow128]; exact ha)
  refine ⟨?_, by omega⟩
  rw [e, IntWalk.wrap64_in _ (by omega), or_i64 _ _ (by omega) (by omega), Nat.or_comm, hj, Nat.add_comm]

/-- the last byte's ways: where the code asks for the size, the document asks for a last byte of 0, and for one too large -/
theorem last_byte (acc c k : Nat) (hk : k < 7) (ha : acc < 128 ^ k) (hc : c < 128) :
    (if (0 < k ∧ c = 0) ∨ Plain.maxN < acc + c * 128 ^ k then (0, 0, 12) else (acc + c * 128 ^ k, k + 1, 0)) = (if Plain.size ((acc + c * 128 ^ k : Nat) : Int) = k + 1 then (acc + c * 128 ^ k, k + 1, 0) else ((0, 0, 12) : Nat × Nat × Nat)) := by
  have hs : Plain.size ((acc + c * 128 ^ k : Nat) : Int) = k + 1 ↔ ¬ ((0 < k ∧ c = 0) ∨ Plain.maxN < acc + c * 128 ^ k) := by
    unfold Plain.size Plain.maxN
    have hz := sz_cases (acc + c * 128 ^ k)
    rw [Int.toNat_natCast]
    generalize Plain.sz (acc + c * 128 ^ k) = q at *
    obtain rfl | rfl | rfl | rfl | rfl | rfl | rfl : k = 0 ∨ k = 1 ∨ k = 2 ∨ k = 3 ∨ k = 4 ∨ k = 5 ∨ k = 6 := by omega
    all_goals
      simp only [Nat.reducePow] at *
      split <;> omega
  by_cases h : (0 < k ∧ c = 0) ∨ Plain.maxN < acc + c * 128 ^ k
  · rw [if_pos h, if_neg (fun h' => hs.1 h' h)]
  · rw [if_neg h, if_pos (hs.2 h)]

/-- one more byte -/
theorem getL_step (bs : List UInt8) (k acc : Nat) (h1 : k < bs.length) (h2 : k < 7) : Plain.getL (7 - k) (bs.drop k) k acc =
    if bs[k].toNat < 128 then (if (0 < k ∧ bs[k].toNat = 0) ∨ Plain.maxN < acc + bs[k].toNat * 128 ^ k then (0, 0, 12) else (acc + bs[k].toNat * 128 ^ k, k + 1, 0))
    else Plain.getL (7 - (k + 1)) (bs.drop (k + 1)) (k + 1) (acc + (bs[k].toNat - 128) * 128 ^ k) := by
  obtain ⟨f, hf⟩ : ∃ f, 7 - k = f + 1 := ⟨7 - k - 1, by omega⟩
  rw [hf, List.drop_eq_getElem_cons h1, Plain.getL, show 7 - (k + 1) = f by omega]
theorem getL_short (bs : List UInt8) (k acc : Nat) (h1 : bs.length ≤ k) (h2 : k < 7) : Plain.getL (7 - k) (bs.drop k) k acc = (0, 0, 11) := by
  obtain ⟨f, hf⟩ : ∃ f, 7 - k = f + 1 := ⟨7 - k - 1, by omega⟩
  rw [hf, List.drop_of_length_le h1, Plain.getL]

end Go.Proofs.Ythcchfhkeghkhaa

namespace Go.Proofs.Ythcchfhkeghkhaa
open Go.RowKit
set_option maxRecDepth 100000

end Go.Proofs.Ythcchfhkeghkhaa

namespace Go.Proofs.Ythcchfhkeghkhaa
open Go.RowKit
set_option maxRecDepth 100000

theorem grown_any (A : Option Addr) (cap : Nat) (bs : List UInt8) (more : Nat) (w : World) (hm : bs.length ≤ 1099511627776) (hmore : more ≤ 1024) (hA : Lies w A (cells bs)) :
    Calls Try.prog 92 #[.slice A bs.length cap, .int .i64 more] w (Made w bs) := by
  obtain ⟨i0, hi, hz0, hz1, hz2⟩ := info_parts infoU8
  have hmk : ∀ u : World, (Instr.makeSlice 68 (.int .i64 (bs.length : Int)) (.int .i64 ((bs.length : Int) + (more : Int)))).run Try.prog u =
      .ok (.slice (some ⟨u.heap.size, 0, none⟩) bs.length (bs.length + more)) (u.alloc (.cells (madeCells #[.int .u8 0] (bs.length + more)) 5)) := fun u => by
    have h := run_make (P := Try.prog) u 68 5 i0 (.int .u8 0) Try.underlying68 hi hz0 .i64 .i64 (bs.length : Int) ((bs.length : Int) + (more : Int)) (by omega) (by omega) (by rw [hz2]; omega) (by omega)
    have e : ((bs.length : Int) + (more : Int)).toNat = bs.length + more := by omega
    rw [e] at h
    simpa [hz1, Value.cells] using h
  have hms := Lib.hid (size_madeCells #[.int .u8 0] (bs.length + more))
  generalize madeCells #[.int .u8 0] (bs.length + more) = Z at *
  have hcl := Lib.hid (cells_length bs)
  have hA2 : Lies (w.alloc (.cells Z 5)) A (cells bs) := hA.keep (by simp) fun p hp => World.cell?_alloc_lt w _ p hp
  have h1 := cells_one bs
  generalize hcs : cells bs = cs at *
  have HCS := Lib.hid hcs
  have H1 := Lib.hid h1
  clear hcs h1
  go_enter Try.func92, Try.ntmps92
  go_wp2_with (with_reducible refine wpList_copy_splice rfl _ _ 68 68 rfl 5 Try.underlying68 sizeU8 _ _ _ _ _ _ rfl rfl w.heap.size 0 Z.toList 5 ?c1 cs ?c2 ?c3 ?c4 H1.out w.heap.size w ?c5 (Nat.le_refl _) ?c6)
  case c1 => exact heap_alloc_new w _
  case c2 => rw [hcl.out]; simp
  case c3 =>
    intro hpos
    rcases hA2 with h | ⟨ad, e, _, hc⟩
    · rw [h] at hpos; simp at hpos
    · exact ⟨ad, e, hc⟩
  case c4 => have := hms.out; have := hcl.out; simp; omega
  case c5 => exact (Below.refl _ _).alloc (Nat.le_refl _) _
  case c6 =>
    intro w' hg hb
    go_wp2
    go_ret
    refine ⟨_, rfl, ⟨by rw [cells_length]; omega, .inr ⟨w.heap.size, bs.length + more, _, rfl, Nat.le_refl _, hg.out, by omega, by unfold maxLen; omega, ?_, ?_⟩⟩, hb⟩
    · have := length_splice Z.toList 0 cs (by have := hms.out; have := hcl.out; simp; omega)
      simp only [List.size_toArray, this]
      have := hms.out
      simp; omega
    · have := hcl.out
      rw [← HCS.out]
      have e : bs.length * 1 = (cells bs).length := by rw [cells_length]; omega
      rw [e]
      simp [splice, HCS.out]

theorem and127_i64 (m : Nat) (h : m < 4611686018427387904) : bits .and .i64 (m : Int) 127 = ((m % 128 : Nat) : Int) := by
  have e : ∀ c : Nat, c < 4611686018427387904 → (BitVec.ofInt 64 (c : Int)).toNat = c := fun c hc => by
    rw [BitVec.ofInt_natCast, BitVec.toNat_ofNat]; exact Nat.mod_eq_of_lt (by omega)
  show IntKind.i64.wrap ((BitVec.ofInt 64 (m : Int) &&& BitVec.ofInt 64 ((127 : Nat) : Int)).toNat : Int) = _
  rw [BitVec.toNat_and, e m h, e 127 (by omega), nat_mask7, IntKind.wrap_i64]
  omega
theorem or128_u8 (r : Nat) (h : r < 128) : bits .or .u8 (r : Int) 128 = ((r + 128 : Nat) : Int) := by
  have h1 := u8_or_nat r 128 (by omega) (by omega)
  have h2 : 128 ||| r = 128 + r := nat_join 7 128 r (by decide) (by omega)
  rw [Nat.or_comm, h2, Nat.add_comm] at h1
  exact h1

theorem enc_more (k n : Nat) : Plain.enc (k + 2) n = UInt8.ofNat (n % 128 + 128) :: Plain.enc (k + 1) (n / 128) := by rw [Plain.enc, if_neg (by omega)]

def PutRel (w : World) (bs : List UInt8) (size n : Nat) (vn vo vl : Value) (wr : World) : Prop :=
  ∃ (k m : Nat) (done : List UInt8), vn = .int .i64 m ∧ vl = .int .i64 k ∧ k ≤ size ∧ m ≤ 281474976710656 ∧ wr.ownsRow w.heap.size 5 1 vo done.length (cells done) ∧ Below w.heap.size w wr ∧ done.length + k = bs.length + size ∧ done ++ Plain.enc k m = bs ++ Plain.enc size n

theorem put_yes (A : Option Addr) (cap : Nat) (bs : List UInt8) (n : Nat) (w : World) (hm : bs.length ≤ 1099511627776) (hn : n ≤ 281474976710656) (hA : Lies w A (cells bs)) :
    Calls Try.prog 75 #[.slice A bs.length cap, .int .i64 n] w (Made w (bs ++ Plain.enc (Plain.sz n) n)) := by
  obtain ⟨i0, hi, hz0, hz1, hz2⟩ := info_parts infoU8
  have hsz := Plain.sz_le n
  have hlen := Lib.hid (show (bs ++ Plain.enc (Plain.sz n) n).length = bs.length + Plain.sz n by rw [List.length_append, Plain.enc_length])
  have HS := Lib.hid (size_yes n w hn)
  generalize hq : Plain.sz n = size at *
  clear hq
  go_enter Try.func75, Try.ntmps75
  go_wp2_with fail
  refine HS.out.mono ?_
  rintro e w' ⟨rfl, rfl⟩
  go_wp2_with fail
  refine (grown_any A cap bs size _ hm (by omega) hA).mono ?_
  rintro e w1 ⟨v, rfl, hown, hb⟩
  have HO := Lib.hid hown
  clear hown
  go_wp2
  go_loopw [1, 6, 7] (fun vn vo vl wr => PutRel w bs size n vn vo vl wr) (fun _ _ vl _ => (intOf vl).toNat)
  case atStart => exact ⟨size, n, bs, rfl, rfl, Nat.le_refl _, hn, HO.out, hb, rfl, rfl⟩
  case round =>
    obtain ⟨k, m, done, rfl, rfl, hk, hmx, hown, hbr, hdl, hde⟩ := hrel
    have HO := Lib.hid hown
    have HD := Lib.hid hde
    have HDL := Lib.hid hdl
    clear hown hde hdl
    rcases Nat.lt_trichotomy k 1 with h1 | rfl | h1
    · obtain rfl : k = 0 := by omega
      go_wp2
      go_ret
      refine ⟨_, rfl, ?_, hbr⟩
      have e : bs ++ Plain.enc size n = done := by have := HD.out; simpa [Plain.enc] using this.symm
      rw [e]
      exact HO.out
    · have hand := and127_i64 m (by omega)
      have hr : m % 128 < 128 := Nat.mod_lt _ (by omega)
      have HE := Lib.hid (show done ++ [UInt8.ofNat (m % 128)] ++ Plain.enc 0 (m / 128) = bs ++ Plain.enc size n by rw [← HD.out]; simp [Plain.enc])
      have HB := Lib.hid (Plain.byte_last m)
      generalize m % 128 = r at *
      go_wp2_with (at_builtin; refine wpList_append_own_at _ rfl _ _ 68 rfl w.heap.size 5 i0 (.int .u8 0) 1 1 Try.underlying68 hi hz0 hz1 hz2 rfl (by decide) u6 done.length (cells done) rfl ?a1 ⟨wr.heap.size, 0, none⟩ 1 1 [.int .u8 (r : Int)] rfl rfl ?a2 ?a3 ?a4 ?a5 ?a6 ?a7)
      case a1 => exact HO.out.alloc _
      case a2 => exact cell_one_new _ _ _
      case a3 => simp [Value.oneCell']
      case a4 => have := HDL.out; unfold maxLen; omega
      case a5 => have := HDL.out; omega
      case a6 => have := hbr.size; simp; omega
      case a7 =>
        intro v' w2 hown2 hgrow hnil hat
        have hb2 : Below w.heap.size w w2 := (hbr.alloc hbr.size _).grown hgrow (by have := hbr.size; simp; omega) (fun g hg => (HO.out.lt g hg).1)
        have HO2 := Lib.hid (show w2.ownsRow w.heap.size 5 1 v' (done ++ [UInt8.ofNat r]).length (cells (done ++ [UInt8.ofNat r])) by
          rw [cells_append, List.length_append]; simpa [cells, HB.out] using hown2)
        clear hown2 hgrow hnil hat
        go_wp2
        go_roundw
        case rel => exact ⟨0, m / 128, done ++ [UInt8.ofNat r], by go_num, rfl, by omega, by omega, HO2.out, hb2, by have := HDL.out; simp; omega, HE.out⟩
        case measure => simp [intOf]
    · obtain ⟨k, rfl⟩ : ∃ j, k = j + 2 := ⟨k - 2, by omega⟩
      have hand := and127_i64 m (by omega)
      have hr : m % 128 < 128 := Nat.mod_lt _ (by omega)
      have HE := Lib.hid (show done ++ [UInt8.ofNat (m % 128 + 128)] ++ Plain.enc (k + 1) (m / 128) = bs ++ Plain.enc size n by rw [← HD.out, enc_more, List.append_assoc]; rfl)
      have HB := Lib.hid (Plain.byte_more m)
      generalize m % 128 = r at *
      have hor := or128_u8 r hr
      generalize hq : r + 128 = q at *
      have hq2 : q ≤ 255 := by omega
      clear hq
      go_wp2_with (at_builtin; refine wpList_append_own_at _ rfl _ _ 68 rfl w.heap.size 5 i0 (.int .u8 0) 1 1 Try.underlying68 hi hz0 hz1 hz2 rfl (by decide) u6 done.length (cells done) rfl ?b1 ⟨wr.heap.size, 0, none⟩ 1 1 [.int .u8 (q : Int)] rfl rfl ?b2 ?b3 ?b4 ?b5 ?b6 ?b7)
      case b1 => exact HO.out.alloc _
      case b2 => exact cell_one_new _ _ _
      case b3 => simp [Value.oneCell']
      case b4 => have := HDL.out; unfold maxLen; omega
      case b5 => have := HDL.out; omega
      case b6 => have := hbr.size; simp; omega
      case b7 =>
        intro v' w2 hown2 hgrow hnil hat
        have hb2 : Below w.heap.size w w2 := (hbr.alloc hbr.size _).grown hgrow (by have := hbr.size; simp; omega) (fun g hg => (HO.out.lt g hg).1)
        have HO2 := Lib.hid (show w2.ownsRow w.heap.size 5 1 v' (done ++ [UInt8.ofNat q]).length (cells (done ++ [UInt8.ofNat q])) by
          rw [cells_append, List.length_append]; simpa [cells, HB.out] using hown2)
        clear hown2 hgrow hnil hat
        go_wp2
        go_roundw
        case rel => exact ⟨k + 1, m / 128, done ++ [UInt8.ofNat q], by go_num, by go_num, by omega, by omega, HO2.out, hb2, by have := HDL.out; simp; omega, HE.out⟩
        case measure => simp [intOf]; omega

theorem put_no (A : Option Addr) (cap : Nat) (bs : List UInt8) (n : Int) (w : World) (hm : bs.length ≤ 1099511627776) (hn : n < 0 ∨ 281474976710656 < n) (hA : Lies w A (cells bs)) :
    Calls Try.prog 75 #[.slice A bs.length cap, .int .i64 n] w (Made w bs) := by
  have HN := Lib.hid hn
  clear hn
  go_enter Try.func75, Try.ntmps75
  go_wp2_with fail
  refine (size_no n _ HN.out).mono ?_
  rintro e w' ⟨rfl, rfl⟩
  go_wp2_with fail
  refine (grown_any A cap bs 0 _ hm (by omega) hA).mono ?_
  rintro e w1 ⟨v, rfl, hown, hb⟩
  have HO := Lib.hid hown
  clear hown
  go_wp2
  refine wp_loop_rounds 1 ?_
  rw [rounds_succ]
  go_wp2
  go_ret
  exact ⟨_, rfl, HO.out, hb⟩

/-- Put, of any bytes and any integer. -/
theorem put_any (A : Option Addr) (cap : Nat) (bs : List UInt8) (n : Int) (w : World) (hm : bs.length ≤ 1099511627776) (hA : Lies w A (cells bs)) :
    Calls Try.prog 75 #[.slice A bs.length cap, .int .i64 n] w (Made w (bs ++ Plain.put n)) := by
  unfold Plain.put
  split
  · rename_i h
    obtain ⟨m, rfl⟩ := Int.eq_ofNat_of_zero_le h.1
    exact put_yes A cap bs m w hm (by omega) hA
  · rw [List.append_nil]
    exact put_no A cap bs n w hm (by omega) hA

/-- PutText, of any bytes and any text. -/
theorem putText_any (A : Option Addr) (cap : Nat) (bs s : List UInt8) (w : World) (hm : bs.length ≤ 1099511627776) (hA : Lies w A (cells bs)) (hs : s.length ≤ maxLen) :
    Calls Try.prog 100 #[.slice A bs.length cap, .string (str s)] w (Made w (bs ++ Plain.putText s)) := by
  obtain ⟨i0, hi, hz0, hz1, hz2⟩ := info_parts infoU8
  have hsl := str_size s
  have hsc := Lib.hid (strCells_cells s)
  unfold maxLen at hs
  have HL := Lib.hid (show (bs ++ Plain.put s.length).length = bs.length + Plain.size s.length by rw [List.length_append, Plain.put_length])
  have HP := Lib.hid (put_any A cap bs s.length w hm hA)
  unfold Plain.putText
  by_cases h : 32 < s.length
  · rw [if_pos h, List.append_nil]
    generalize str s = S at *
    generalize s.length = L at *
    subst hsl
    go_enter Try.func100, Try.ntmps100
    go_wp2_with fail
    refine (grown_any A cap bs 0 _ hm (by omega) hA).mono ?_
    rintro e w1 ⟨v, rfl, hown, hb⟩
    have HO := Lib.hid hown
    clear hown
    go_wp2
    go_ret
    exact ⟨_, rfl, HO.out, hb⟩
  · rw [if_neg h, ← List.append_assoc]
    have hpl := Plain.size_le s.length
    have HF := Lib.hid (show ∀ (v : Value) (w' : World), w'.ownsRow w.heap.size 5 1 v ((bs ++ Plain.put s.length).length + s.length) (cells (bs ++ Plain.put s.length) ++ cells s) → Below w.heap.size w w' → Made w (bs ++ Plain.put s.length ++ s) (.returned v) w' from
      fun v w' ho hb => ⟨v, rfl, by rw [cells_append, List.length_append]; exact ho, hb⟩)
    generalize bs ++ Plain.put s.length ++ s = out at *
    generalize bs ++ Plain.put s.length = mid at *
    generalize str s = S at *
    generalize cells s = cs at *
    generalize hq : Plain.size s.length = q at *
    clear hq
    generalize s.length = L at *
    subst hsl
    go_enter Try.func100, Try.ntmps100
    go_wp2_with fail
    refine HP.out.mono ?_
    rintro e w1 ⟨v, rfl, hown, hb⟩
    have HO := Lib.hid hown
    clear hown
    go_wp2_with (at_builtin; refine Lib.wpList_append_own_string _ rfl _ _ 68 9 rfl w.heap.size 5 i0 Try.underlying68 Try.underlying9 hi hz0 hz1 hz2 v mid.length (cells mid) rfl ?a1 S rfl ?a2 ?a3 ?a4 ?a5)
    case a1 => exact HO.out
    case a2 => have := HL.out; unfold maxLen; omega
    case a3 => have := HL.out; omega
    case a4 => exact hb.size
    case a5 =>
      intro v' w2 hown2 hgrow hnil
      have hb2 : Below w.heap.size w w2 := hb.grown hgrow hb.size (fun g hg => (HO.out.lt g hg).1)
      rw [hsc.out] at hown2
      have HO2 := Lib.hid hown2
      clear hown2 hgrow hnil
      go_wp2
      go_ret
      exact HF.out _ _ HO2.out hb2
end Go.Proofs.Ythcchfhkeghkhaa

namespace Go.Proofs.Ythcchfhkeghkhaa
open Go.RowKit
set_option maxRecDepth 100000

end Go.Proofs.Ythcchfhkeghkhaa
