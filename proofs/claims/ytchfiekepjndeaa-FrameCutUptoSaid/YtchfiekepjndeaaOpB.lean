/-
  Layer 12: slices of bytes that came in, opened; the laws' Great, and put: what they answer. Nothing is assumed but that the bytes lie in memory, and, of put, that its frames are no more than a thousand million bytes.
-/
import Derived.Test.YtchfiekepjndeaaL12S
import Derived.Test.YtchfiekepjndeaaRd

namespace Go.Proofs.Ytchfiekepjndeaa
open Go.ChangeShapes Go.WideShapes Go.ChangeAt Go.RowKit Go.Deep
set_option maxRecDepth 100000

/-- bytes that came in, within a slice of such -/
structure Bs where
  A : Option Addr
  cap : Nat
  bs : List UInt8
instance : Inhabited Bs := ⟨⟨none, 0, []⟩⟩
def bsV (x : Bs) : Value := .slice x.A x.bs.length x.cap
def BsIn (W : World) (x : Bs) : Prop := x.bs.length ≤ x.cap ∧ x.cap ≤ maxLen ∧ Lies W x.A (cells x.bs)
def flatB (l : List Bs) : List Value := l.map bsV
theorem flatB_length (l : List Bs) : (flatB l).length = l.length := by simp [flatB]
theorem open_bss {H : Type} {enc : TypeId × Value → H} {W : World} {r : Reach} {b0 : Nat} {v : Value} {d : DataW H} {ps : List MemPlace} (hval : Value.okWide Try.prog W r b0 31 v) (h : DataW.Trod enc Try.prog W 0 (fun _ => true) true 31 v d ps) (hlt : ∀ x ∈ ps, x.block < W.heap.size) :
    ∃ (A : Option Addr) (cap : Nat) (l : List Bs), v = .slice A l.length cap ∧ l.length ≤ cap ∧ cap ≤ maxLen ∧ Lies W A (flatB l) ∧ ∀ x ∈ l, BsIn W x := by
  obtain ⟨fuel, hf⟩ := h
  rw [cells_one_slice Try.underlying31 hval] at hf
  obtain ⟨A, cap, xs, h1, h2, h3, h4, h5⟩ := read_rows (fun x : Bs => [bsV x]) 1 (fun _ => rfl) (by omega) (BsIn W) Try.underlying31 (by kernel_rfl) (fun n cs y hc ht hl => by
    obtain ⟨c, rfl⟩ := one_of hc
    obtain ⟨B, cp, bs, rfl, g1, g2, g3⟩ := read_bytes ht hl
    exact ⟨⟨B, cp, bs⟩, rfl, g1, g2, g3⟩) hf hlt
  refine ⟨A, cap, xs, h1, h2, h3, ?_, h5⟩
  have e : xs.flatMap (fun x : Bs => [bsV x]) = flatB xs := by
    unfold flatB
    clear h1 h2 h4 h5
    induction xs with
    | nil => rfl
    | cons a l ih => rw [List.flatMap_cons, ih]; rfl
  rwa [e] at h4
theorem BsIn.below {W W' : World} {x : Bs} (h : BsIn W x) (hb : Below W.heap.size W W') : BsIn W' x := ⟨h.1, h.2.1, h.2.2.below hb⟩
/-- the k-th one's cell, in every later world -/
theorem at_bs {w : World} {A : Option Addr} {l : List Bs} (h : Lies w A (flatB l)) (k : Nat) (hk : k < l.length) :
    ∃ ad, A = some ad ∧ ad.block < w.heap.size ∧ ∀ u, Below w.heap.size w u → u.cell? (ad.add k) = some (.slice l[k].A l[k].bs.length l[k].cap) := by
  obtain ⟨ad, rfl, hadb, hc⟩ := h.at_ (k := k) (by rw [flatB_length]; exact hk)
  refine ⟨ad, rfl, hadb, fun u hu => ?_⟩
  rw [hu.cell (by rw [addr_block]; exact hadb), hc]
  simp [flatB, bsV]

/-- how long they are, all in all: each counts no more than 20000 -/
def many (l : List Bs) : Nat := (l.map fun x => min x.bs.length 20000).sum
theorem many_succ (l : List Bs) (k : Nat) (h : k < l.length) : many (l.take (k + 1)) = many (l.take k) + min l[k].bs.length 20000 := by
  unfold many
  rw [List.take_succ_eq_append_getElem h]
  simp only [List.map_append, List.sum_append, List.map_cons, List.map_nil, List.sum_cons, List.sum_nil, Nat.add_zero]
theorem many_one (l : List Bs) (x : Bs) (h : x ∈ l) : min x.bs.length 20000 ≤ many l := by
  induction l with
  | nil => cases h
  | cons y r ih =>
    unfold many at ih ⊢
    rw [List.map_cons, List.sum_cons]
    rcases List.mem_cons.1 h with rfl | h
    · omega
    · have := ih h; omega
/-- it says whether they are too many -/
def GreatB (w : World) (l : List Bs) (e : Ending) (w' : World) : Prop := ∃ r : Bool, e = .returned (.bool r) ∧ (r = false → l.length ≤ 200 ∧ l.length + many l < 20000) ∧ w = w'
theorem min12_run (x : Nat) (W : World) : (Builtin.min_ #[3, 3] 3 #[.int .i64 (x : Int), .int .i64 20000]).run Try.prog W = .ok (.int .i64 ((min x 20000 : Nat) : Int)) W := by
  by_cases h : 20000 ≤ x
  · rw [Nat.min_eq_right h]
    have h2 : (20000 : Int) ≤ (x : Int) := by omega
    simp [Builtin.min_, Builtin.min2, go_sem]
    omega
  · rw [Nat.min_eq_left (by omega)]
    have h2 : ¬ (20000 : Int) ≤ (x : Int) := by omega
    simp [Builtin.min_, Builtin.min2, go_sem]
    omega

set_option maxHeartbeats 2000000 in
theorem great12_any (A : Option Addr) (n cap : Nat) (l : List Bs) (w : World) (hn : l.length = n) (hm : n ≤ maxLen) (hA : Lies w A (flatB l)) :
    Calls Try.prog 16 #[.slice A n cap] w (GreatB w l) := by
  have HN := Lib.hid hn
  have HA := Lib.hid hA
  clear hn hA
  unfold maxLen at hm
  go_enter Try.func16, Try.ntmps16
  go_wp2
  go_loopw [3, 4] (fun vs vi wr => ∃ k s : Nat, vi = .int .i64 k ∧ k ≤ n ∧ vs = .int .i64 s ∧ s = n + many (l.take k) ∧ (s < 20000 ∨ (s ≤ n + 40000)) ∧ wr = w) (fun _ vi _ => n - (intOf vi).toNat)
  case atStart => exact ⟨0, n, rfl, Nat.zero_le _, rfl, by simp [many], .inr (by omega), rfl⟩
  case round =>
    obtain ⟨k, s, rfl, hk, rfl, hs, hsb, rfl⟩ := hrel
    have HS := Lib.hid hs
    have hs2 : s ≤ n + 40000 := by omega
    clear hs hsb
    by_cases hlt : k < n
    · have hkl : k < l.length := by rw [HN.out]; exact hlt
      by_cases h2 : s < 20000
      · obtain ⟨ad, rfl, hadb, hc⟩ := at_bs HA.out k hkl
        have y0 := hc wr (Below.refl _ _)
        have HMS := Lib.hid (many_succ l k hkl)
        have hmin := min12_run l[k].bs.length
        have hm2 : min l[k].bs.length 20000 ≤ 20000 := Nat.min_le_right _ _
        clear hc
        generalize min l[k].bs.length 20000 = q at *
        generalize l[k].bs.length = len at *
        go_wp2
        go_roundw
        case rel => exact ⟨k + 1, s + q, by go_num, by omega, by go_num, by rw [HMS.out, HS.out]; omega, .inr (by omega), by first | rfl | trivial⟩
        case measure => simp [intOf]; omega
      · go_wp2
        go_ret
        exact ⟨_, rfl, (fun h => by exfalso; first | (cases h; done) | (simp at h; done) | (simp at h; omega)), rfl⟩
    · obtain rfl : k = n := by omega
      have hall : s = k + many l := by rw [HS.out, List.take_of_length_le (by rw [HN.out]; omega)]
      have HALL := Lib.hid hall
      clear hall
      by_cases h2 : s < 20000
      · by_cases h3 : 200 < k
        · go_wp2
          go_ret
          exact ⟨_, rfl, (fun h => by exfalso; first | (cases h; done) | (simp at h; done) | (simp at h; omega)), rfl⟩
        · go_wp2
          go_ret
          exact ⟨_, rfl, (fun _ => ⟨by rw [HN.out]; omega, by rw [HN.out, ← HALL.out]; exact h2⟩), rfl⟩
      · go_wp2
        go_ret
        exact ⟨_, rfl, (fun h => by exfalso; first | (cases h; done) | (simp at h; done) | (simp at h; omega)), rfl⟩

/-- the first ones' frames -/
def rowTo (l : List Bs) (k : Nat) : List UInt8 := Fra.row ((l.take k).map (·.bs))
theorem rowTo_succ (l : List Bs) (k : Nat) (h : k < l.length) : rowTo l (k + 1) = rowTo l k ++ Fra.put l[k].bs := by
  unfold rowTo
  rw [List.take_succ_eq_append_getElem h, List.map_append]
  exact Fra.row_snoc _ _
theorem rowTo_all (l : List Bs) : rowTo l l.length = Fra.row (l.map (·.bs)) := by unfold rowTo; rw [List.take_length]
theorem rowTo_len (l : List Bs) (k : Nat) : (rowTo l k).length ≤ (Fra.row (l.map (·.bs))).length := by
  unfold rowTo Fra.row
  conv => rhs; rw [← List.take_append_drop k l]
  rw [List.map_append, List.map_append, List.flatten_append, List.length_append]
  omega

set_option maxHeartbeats 2000000 in
theorem put12_any (A : Option Addr) (n cap : Nat) (l : List Bs) (w : World) (hn : l.length = n) (hm : n ≤ 1000000000) (hA : Lies w A (flatB l)) (hQ : ∀ x ∈ l, BsIn w x) (hT : (Fra.row (l.map (·.bs))).length ≤ 1000000000000) :
    Calls Try.prog 17 #[.slice A n cap] w (Made w (Fra.row (l.map (·.bs)))) := by
  obtain ⟨i0, hi, hz0, hz1, hz2⟩ := info_parts infoU8
  have HN := Lib.hid hn
  have HA := Lib.hid hA
  have HQ := Lib.hid hQ
  have HRL := Lib.hid (rowTo_len l)
  have HRA := Lib.hid (rowTo_all l)
  rw [hn] at HRA
  clear hn hA hQ
  go_enter Try.func17, Try.ntmps17
  go_wp2
  go_loopw [3, 4] (fun vb vi wr => ∃ k : Nat, vi = .int .i64 k ∧ k ≤ n ∧ wr.ownsRow w.heap.size 5 1 vb (rowTo l k).length (cells (rowTo l k)) ∧ Below w.heap.size w wr) (fun _ vi _ => n - (intOf vi).toNat)
  case atStart => exact ⟨0, rfl, Nat.zero_le _, World.ownsRow_nil _ _ _ _, Below.refl _ _⟩
  case round =>
    obtain ⟨k, rfl, hk, hown, hbr⟩ := hrel
    have HO := Lib.hid hown
    have HB := Lib.hid hbr
    clear hown hbr
    by_cases hlt : k < n
    · have hkl : k < l.length := by rw [HN.out]; exact hlt
      obtain ⟨ad, rfl, hadb, hc⟩ := at_bs HA.out k hkl
      have y0 := hc wr HB.out
      have HS := Lib.hid (rowTo_succ l k hkl)
      have hl1 := HRL.out (k + 1)
      rw [HS.out, List.length_append] at hl1
      have hx := HQ.out l[k] (List.getElem_mem hkl)
      have HP := Lib.hid (fput_any l[k].A l[k].bs.length l[k].cap l[k].bs wr rfl (hx.2.2.below HB.out))
      have HLE := Lib.hid (show (rowTo l k).length + (Fra.put l[k].bs).length ≤ 70368744177664 by omega)
      clear hc hl1 hx
      generalize Fra.put l[k].bs = pb at *
      generalize l[k].A = A1 at *
      generalize l[k].bs.length = m1 at *
      generalize l[k].cap = c1 at *
      go_wp2_with fail
      refine HP.out.mono ?_
      rintro e w1 ⟨v, rfl, ho1, hb1⟩
      obtain ⟨A2, c2, rfl, -, -, -, hL2⟩ := own_form ho1
      have HO1 := Lib.hid (own_keep HO.out hb1)
      have HL2 := Lib.hid hL2
      have HB1 := Lib.hid (HB.out.trans (hb1.mono HB.out.size))
      have HPC := Lib.hid (show (cells pb).length = pb.length from cells_length pb)
      have HC1 := Lib.hid (cells_one pb)
      clear ho1 hb1 hL2
      generalize pb.length = pl at *
      go_wp2_with (at_builtin; refine wpList_app rfl _ _ 22 rfl w.heap.size 5 i0 (.int .u8 0) Try.underlying22 hi hz0 hz1 hz2 rfl u3 (rowTo l k).length (cells (rowTo l k)) rfl HO1.out A2 pl c2 (cells pb) rfl HPC.out HL2.out HC1.out HLE.out HB1.out.size ?_)
      intro v2 w2 ho2 hg2 _
      have hb2 : Below w.heap.size w w2 := HB1.out.grown hg2 HB1.out.size (fun g hg => (HO1.out.lt g hg).1)
      have ho3 : w2.ownsRow w.heap.size 5 1 v2 (rowTo l (k + 1)).length (cells (rowTo l (k + 1))) := by
        have hpl : pl = pb.length := by rw [← HPC.out, cells_length]
        rw [HS.out, List.length_append, cells_append, ← hpl]
        exact ho2
      have HO3 := Lib.hid ho3
      have HB2 := Lib.hid hb2
      clear ho2 hg2 hb2 ho3
      go_wp2
      go_roundw
      case rel => exact ⟨k + 1, by go_num, by omega, HO3.out, HB2.out⟩
      case measure => simp [intOf]; omega
    · obtain rfl : k = n := by omega
      go_wp2
      go_ret
      refine ⟨_, rfl, ?_, HB.out⟩
      rw [← HRA.out]
      exact HO.out
end Go.Proofs.Ytchfiekepjndeaa
