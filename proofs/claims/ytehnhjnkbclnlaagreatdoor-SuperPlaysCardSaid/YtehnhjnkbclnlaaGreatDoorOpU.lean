/-
  Layer 10: the rows of calls and tables that SuperPlays takes, and whether they are too many (turntablelaw10.great). Nothing is assumed.
-/
import Derived.Test.YtehnhjnkbclnlaaGreatDoorOpS
import Derived.Test.YtehnhjnkbclnlaaGreatDoorOpD
import Derived.Test.YtehnhjnkbclnlaaGreatDoorRg9
import Derived.BigRegion

namespace Go.Proofs.YtehnhjnkbclnlaaGreatDoor
open Go.ChangeShapes Go.WideShapes Go.ChangeAt Go.RowKit
set_option maxRecDepth 100000

/-- a Save of a table, or a call of the device -/
structure Oz where
  what : Int
  t : Tq
  d : Oq
instance : Inhabited Oz := ⟨⟨0, default, default⟩⟩
def ozCells (x : Oz) : List Value := .int .i64 x.what :: (tqCells x.t ++ oqCells x.d)
theorem ozCells_length (x : Oz) : (ozCells x).length = 10 := rfl
def flatZ (l : List Oz) : List Value := l.flatMap ozCells
structure OzIn (w : World) (x : Oz) : Prop where
  t : TqIn w x.t
  d : OqIn w x.d
theorem at_oz {w : World} {A : Option Addr} {l : List Oz} (h : Lies w A (flatZ l)) (k : Nat) (hk : k < l.length) :
    ∃ ad, A = some ad ∧ ∀ j u, (ozCells l[k])[j]? = some u → w.cell? ((ad.add (k * 10)).add j) = some u := by
  obtain ⟨ad, rfl, -, -⟩ := h.at_ (k := k * 10) (by unfold flatZ; rw [flatMap9_len ozCells 10 ozCells_length]; omega)
  refine ⟨ad, rfl, fun j u hu => ?_⟩
  have hj : j < 10 := by
    rcases Nat.lt_or_ge j 10 with h | h
    · exact h
    · rw [List.getElem?_eq_none (by rw [ozCells_length]; exact h)] at hu; cases hu
  have hf := flatMap9_at ozCells 10 ozCells_length l k j _ (List.getElem?_eq_getElem hk) hj
  rw [hu] at hf
  rw [addr_add]
  rcases h with h | ⟨ad', e, _, hc⟩
  · unfold flatZ at h; rw [h] at hf; simp at hf
  · injection e with e; subst e; exact hc _ _ hf
theorem oz_of {H : Type} {enc : TypeId × Value → H} {W : World} {n : Nat} {y : DataW H × List MemPlace} {cs : List Value} (hc : cs.length = 10) (ht : DataW.trod enc Tryz.prog W 0 (fun _ => true) true n 38 cs = some y) (hlt : ∀ p ∈ y.2, p.block < W.heap.size) : ∃ x : Oz, cs = ozCells x ∧ OzIn W x := by
  obtain ⟨ys, n', hn', hy, hlen, hyl, hfl⟩ := DataW.trod_struct Tryz.underlying38 ht
  have k1 : Tryz.prog.cellsOf 3 = 1 := by kernel_rfl
  have k2 : Tryz.prog.cellsOf 31 = 3 := by kernel_rfl
  have k3 : Tryz.prog.cellsOf 36 = 6 := by kernel_rfl
  match cs, hc with
  | [c0, c1, c2, c3, c4, c5, c6, c7, c8, c9], _ =>
    match ys, hyl with
    | [y0, y1, y2], _ =>
      have h0 : DataW.trod enc Tryz.prog W 0 (fun _ => true) true n' 3 [c0] = some y0 := by have := hfl 0 _ rfl; simpa [k1] using this
      have h1 : DataW.trod enc Tryz.prog W 0 (fun _ => true) true n' 31 [c1, c2, c3] = some y1 := by have := hfl 1 _ rfl; simpa [k1, k2] using this
      have h2 : DataW.trod enc Tryz.prog W 0 (fun _ => true) true n' 36 [c4, c5, c6, c7, c8, c9] = some y2 := by have := hfl 2 _ rfl; simpa [k1, k2, k3] using this
      have hin : ∀ q ∈ [y0, y1, y2], ∀ p ∈ q.2, p.block < W.heap.size := fun q hq p hp => hlt p (by rw [hy]; exact List.mem_flatMap.2 ⟨q, hq, hp⟩)
      obtain ⟨a0, rfl⟩ := trod_int1 h0
      obtain ⟨t, e1, i1⟩ := tq_of rfl h1 (hin y1 (by simp))
      obtain ⟨o, e2, i2⟩ := oq_of rfl h2 (hin y2 (by simp))
      refine ⟨⟨a0, t, o⟩, ?_, i1, i2⟩
      unfold ozCells
      rw [← e1, ← e2]
      rfl
theorem open_ops10 {H : Type} {enc : TypeId × Value → H} {W : World} {r : Reach} {b0 : Nat} {v : Value} {d : DataW H} {ps : List MemPlace} (hval : Value.okWide Tryz.prog W r b0 22 v) (h : DataW.Trod enc Tryz.prog W 0 (fun _ => true) true 22 v d ps) (hlt : ∀ x ∈ ps, x.block < W.heap.size) :
    ∃ (A : Option Addr) (cap : Nat) (xs : List Oz), v = .slice A xs.length cap ∧ xs.length ≤ cap ∧ cap ≤ maxLen ∧ Lies W A (flatZ xs) ∧ ∀ u ∈ xs, OzIn W u := by
  obtain ⟨fuel, hf⟩ := h
  have hone : v.cells.toList = [v] := by
    obtain ⟨a0, len, cap, rfl⟩ := okWide_slice Tryz.underlying22 hval
    rfl
  rw [hone] at hf
  exact read9_rows ozCells 10 ozCells_length (by omega) (OzIn W) Tryz.underlying22 (by kernel_rfl) (fun _ _ _ hc ht hl => oz_of hc ht hl) hf hlt
theorem Low.offS {w : World} {b : Nat} {A : Option Addr} {xs : List Value} {S : List Nat} (h : Low w b A xs) (hS : ∀ s ∈ S, b ≤ s) : Off S A xs := h.low.imp id fun h ad e hm => by have := h ad e; have := hS _ hm; omega
theorem got_few (s : List UInt8) : (Tb.got s).xs.length ≤ 8 := by
  unfold Tb.got
  split
  · rw [told_parts]
    simp
    omega
  · exact Nat.zero_le _
theorem look_few {b : Tb.T × Bool} {i : Nat} {s : List UInt8} (h : b.1.xs.length ≤ 8) : (Su.look b i s).1.xs.length ≤ 8 := by
  unfold Su.look
  split
  · exact got_few s
  · exact h
theorem load_few (d : Plain.Dv) : (Su.load d).1.xs.length ≤ 8 := by
  unfold Su.load
  split
  · exact Nat.zero_le _
  · split
    · exact Nat.zero_le _
    · exact look_few (look_few (Nat.zero_le _))

def GivesZ (w : World) (n : Nat) (e : Ending) (w' : World) : Prop := ∃ r : Bool, e = .returned (.bool r) ∧ (r = false → n ≤ 100) ∧ Below w.heap.size w w'
set_option maxHeartbeats 4000000 in
theorem great10_any (A : Option Addr) (n cap : Nat) (l : List Oz) (w : World) (hn : l.length = n) (hm : n ≤ maxLen) (hA : Lies w A (flatZ l)) :
    Calls Tryz.prog 5 #[.slice A n cap] w (GivesZ w n) := by
  have HA := Lib.hid hA
  have HN := Lib.hid hn
  unfold maxLen at hm
  clear hA hn
  go_enter Tryz.func5, Tryz.ntmps5
  go_wp2
  go_loopw [3, 4] (fun s t wr => ∃ (z : Int) (k : Nat), s = .int .i64 z ∧ t = .int .i64 (k : Int) ∧ k ≤ n ∧ Below w.heap.size w wr) (fun _ t _ => n - (RowKit.intOf t).toNat)
  case atStart => exact ⟨0, 0, rfl, rfl, Nat.zero_le _, Below.refl _ _⟩
  case round =>
    obtain ⟨z, k, rfl, rfl, hk, hB⟩ := hrel
    by_cases hgo : k < n ∧ z < 9000
    · obtain ⟨hkn, hz⟩ := hgo
      have t1 : decide ((k : Int) < (n : Int)) = true := by simpa using hkn
      have t2 : decide (z < 9000) = true := by simpa using hz
      have hkl : k < l.length := by rw [HN.out]; exact hkn
      obtain ⟨ad, hAD, -⟩ := at_oz (HA.out.below hB) k hkl
      have HCC := Lib.hid (fun (W : World) (hW : Below wr.heap.size wr W) => (show ∀ j u, (ozCells l[k])[j]? = some u → W.cell? ((ad.add (k * 10)).add j) = some u from by
        obtain ⟨ad', e, h⟩ := at_oz ((HA.out.below hB).below hW) k hkl
        rw [hAD] at e; injection e with e; subst e; exact h))
      obtain ⟨⟨xw, ⟨tg, to, tA, tc, ts⟩, ⟨yw, ya, yc, ybA, ybc, yb, ykA, ykc, yk, yhA, yhc, yh⟩⟩, hx⟩ : ∃ x, l[k] = x := ⟨_, rfl⟩
      rw [hx] at HCC
      obtain ⟨tn, htn⟩ : ∃ n, ts.length = n := ⟨_, rfl⟩
      obtain ⟨bn, hbn⟩ : ∃ n, yb.length = n := ⟨_, rfl⟩
      obtain ⟨kn, hkn2⟩ : ∃ n, yk.length = n := ⟨_, rfl⟩
      obtain ⟨hn, hhn⟩ : ∃ n, yh.length = n := ⟨_, rfl⟩
      have C3 := Lib.hid (fun (W : World) (hW : Below wr.heap.size wr W) => show W.cell? ⟨(ad.add (k * 10)).block, (ad.add (k * 10)).off + 3, none⟩ = some (.slice tA tn tc) from htn ▸ HCC.out W hW 3 _ rfl)
      have C7 := Lib.hid (fun (W : World) (hW : Below wr.heap.size wr W) => show W.cell? ⟨(ad.add (k * 10)).block, (ad.add (k * 10)).off + 7, none⟩ = some (.slice ybA bn ybc) from hbn ▸ HCC.out W hW 7 _ rfl)
      have C8 := Lib.hid (fun (W : World) (hW : Below wr.heap.size wr W) => show W.cell? ⟨(ad.add (k * 10)).block, (ad.add (k * 10)).off + 8, none⟩ = some (.slice ykA kn ykc) from hkn2 ▸ HCC.out W hW 8 _ rfl)
      have C9 := Lib.hid (fun (W : World) (hW : Below wr.heap.size wr W) => show W.cell? ⟨(ad.add (k * 10)).block, (ad.add (k * 10)).off + 9, none⟩ = some (.slice yhA hn yhc) from hhn ▸ HCC.out W hW 9 _ rfl)
      have HIX := Lib.hid (fun (W : World) => show (Instr.indexAt 22 (.slice A n cap) (.int .i64 (k : Int))).run Tryz.prog W = .ok (.pointer (some (ad.add (k * 10)))) W by
        rw [hAD]
        go_simp)
      clear hx htn hbn hkn2 hhn HCC hAD
      generalize ad.add (k * 10) = p at *
      have H3 := Lib.hid (fun (W : World) (hW : Below wr.heap.size wr W) => show (Instr.loadAt 29 (.pointer (some ⟨p.block, p.off + 3, none⟩))).run Tryz.prog W = .ok (.slice tA tn tc) W by
        have c := C3.out W hW
        go_simp)
      have H7 := Lib.hid (fun (W : World) (hW : Below wr.heap.size wr W) => show (Instr.loadAt 32 (.pointer (some ⟨p.block, p.off + 7, none⟩))).run Tryz.prog W = .ok (.slice ybA bn ybc) W by
        have c := C7.out W hW
        go_simp)
      have H8 := Lib.hid (fun (W : World) (hW : Below wr.heap.size wr W) => show (Instr.loadAt 33 (.pointer (some ⟨p.block, p.off + 8, none⟩))).run Tryz.prog W = .ok (.slice ykA kn ykc) W by
        have c := C8.out W hW
        go_simp)
      have H9 := Lib.hid (fun (W : World) (hW : Below wr.heap.size wr W) => show (Instr.loadAt 34 (.pointer (some ⟨p.block, p.off + 9, none⟩))).run Tryz.prog W = .ok (.slice yhA hn yhc) W by
        have c := C9.out W hW
        go_simp)
      clear C3 C7 C8 C9
      have hbd : Below wr.heap.size wr wr.drew := (Below.refl _ _).drew
      go_wp2
      refine wp_late (by kernel_rfl) 56 [(15, [3]), (16, [0]), (17, [4]), (18, [16, 17]), (19, [18]), (20, [19]), (21, [20]), (22, [21]), (23, [0]), (24, [4]), (25, [23, 24]), (26, [25]), (27, [26]), (28, [27]), (29, [28]), (30, [22, 29]), (31, [0]), (32, [4]), (33, [31, 32]), (34, [33]), (35, [34]), (36, [35]), (37, [36]), (38, [30, 37]), (39, [0]), (40, [4]), (41, [39, 40]), (42, [41]), (43, [42]), (44, [43]), (45, [44]), (46, [38, 45]), (47, [46]), (48, [15, 47]), (1034, [48])]
        [Fact.is (.int .i64 z), Fact.is (.slice A n cap), Fact.is (.int .i64 (k : Int)), Fact.is (.pointer (some p)), Fact.is (.pointer (some ⟨p.block, p.off + 1, none⟩)), Fact.is (.pointer (some ⟨p.block, p.off + 3, none⟩)), Fact.is (.slice tA tn tc), Fact.is (.int .i64 tn), Fact.is (.slice A n cap), Fact.is (.int .i64 (k : Int)), Fact.is (.pointer (some p)), Fact.is (.pointer (some ⟨p.block, p.off + 4, none⟩)), Fact.is (.pointer (some ⟨p.block, p.off + 7, none⟩)), Fact.is (.slice ybA bn ybc), Fact.is (.int .i64 bn), Fact.is (.int .i64 (IntKind.i64.wrap ((tn : Int) + (bn : Int)))), Fact.is (.slice A n cap), Fact.is (.int .i64 (k : Int)), Fact.is (.pointer (some p)), Fact.is (.pointer (some ⟨p.block, p.off + 4, none⟩)), Fact.is (.pointer (some ⟨p.block, p.off + 8, none⟩)), Fact.is (.slice ykA kn ykc), Fact.is (.int .i64 kn), Fact.is (.int .i64 (IntKind.i64.wrap (IntKind.i64.wrap ((tn : Int) + (bn : Int)) + (kn : Int)))), Fact.is (.slice A n cap), Fact.is (.int .i64 (k : Int)), Fact.is (.pointer (some p)), Fact.is (.pointer (some ⟨p.block, p.off + 4, none⟩)), Fact.is (.pointer (some ⟨p.block, p.off + 9, none⟩)), Fact.is (.slice yhA hn yhc), Fact.is (.int .i64 hn), Fact.is (.int .i64 (IntKind.i64.wrap (IntKind.i64.wrap (IntKind.i64.wrap ((tn : Int) + (bn : Int)) + (kn : Int)) + (hn : Int)))), Fact.is (.int .i64 (min (IntKind.i64.wrap (IntKind.i64.wrap (IntKind.i64.wrap ((tn : Int) + (bn : Int)) + (kn : Int)) + (hn : Int))) 9000)), Fact.is (.int .i64 (IntKind.i64.wrap (z + min (IntKind.i64.wrap (IntKind.i64.wrap (IntKind.i64.wrap ((tn : Int) + (bn : Int)) + (kn : Int)) + (hn : Int))) 9000))), default]
        [1, 1, 1, 1, 1, 1, 1, 1, 1, 1, 1, 1, 1, 1, 1, 1, 1, 1, 1, 1, 1, 1, 1, 1, 1, 1, 1, 1, 1, 1, 1, 1, 1, 1, 2] [34] [3] [15, 16, 17, 18, 19, 20, 21, 22, 23, 24, 25, 26, 27, 28, 29, 30, 31, 32, 33, 34, 35, 36, 37, 38, 39, 40, 41, 42, 43, 44, 45, 46, 47, 48, 3] ((fun _ vs w' => (∃ z2 : Int, vs = [.int .i64 z2]) ∧ Below wr.heap.size wr w'))
        (by kernel_rfl) (by kernel_rfl) rfl rfl ⟨?s0, ?s1, ?s2, ?s3, ?s4, ?s5, ?s6, ?s7, ?s8, ?s9, ?s10, ?s11, ?s12, ?s13, ?s14, ?s15, ?s16, ?s17, ?s18, ?s19, ?s20, ?s21, ?s22, ?s23, ?s24, ?s25, ?s26, ?s27, ?s28, ?s29, ?s30, ?s31, ?s32, ?s33, trivial⟩ ?late ?fin
      case s0 =>
        intro ρ W hb hc hf hr
        obtain ⟨r3, -⟩ := hr
        have e3 : ρ (.tmp 3) = .int .i64 z := r3
        clear r3
        refine under_none rfl ?_
        exact ⟨e3, Below.refl _ _⟩
      case s1 =>
        intro ρ W hb hc hf hr
        obtain ⟨r0, -⟩ := hr
        have e0 : ρ (.tmp 0) = .slice A n cap := r0
        clear r0
        refine under_none rfl ?_
        exact ⟨e0, Below.refl _ _⟩
      case s2 =>
        intro ρ W hb hc hf hr
        obtain ⟨r4, -⟩ := hr
        have e4 : ρ (.tmp 4) = .int .i64 (k : Int) := r4
        clear r4
        refine under_none rfl ?_
        exact ⟨e4, Below.refl _ _⟩
      case s3 =>
        intro ρ W hb hc hf hr
        obtain ⟨r16, r17, -⟩ := hr
        have e16 : ρ (.tmp 16) = .slice A n cap := r16
        clear r16
        have e17 : ρ (.tmp 17) = .int .i64 (k : Int) := r17
        clear r17
        refine under_none rfl ?_
        exact soft9_index e16 e17 (HIX.out W) rfl
      case s4 =>
        intro ρ W hb hc hf hr
        obtain ⟨r18, -⟩ := hr
        have e18 : ρ (.tmp 18) = .pointer (some p) := r18
        clear r18
        refine under_none rfl ?_
        exact soft_field e18 rfl (fun W => by go_simp)
      case s5 =>
        intro ρ W hb hc hf hr
        obtain ⟨r19, -⟩ := hr
        have e19 : ρ (.tmp 19) = .pointer (some ⟨p.block, p.off + 1, none⟩) := r19
        clear r19
        refine under_none rfl ?_
        exact soft_field e19 rfl (fun W => by go_simp)
      case s6 =>
        intro ρ W hb hc hf hr
        obtain ⟨r20, -⟩ := hr
        have e20 : ρ (.tmp 20) = .pointer (some ⟨p.block, p.off + 3, none⟩) := r20
        clear r20
        refine under_none rfl ?_
        exact soft_load e20 (H3.out W (hbd.trans (hb.mono (by simp)))) rfl
      case s7 =>
        intro ρ W hb hc hf hr
        obtain ⟨r21, -⟩ := hr
        have e21 : ρ (.tmp 21) = .slice tA tn tc := r21
        clear r21
        refine under_none rfl ?_
        simp [e21, go_sem, softUpon, Fact.is, Below.refl]
      case s8 =>
        intro ρ W hb hc hf hr
        obtain ⟨r0, -⟩ := hr
        have e0 : ρ (.tmp 0) = .slice A n cap := r0
        clear r0
        refine under_none rfl ?_
        exact ⟨e0, Below.refl _ _⟩
      case s9 =>
        intro ρ W hb hc hf hr
        obtain ⟨r4, -⟩ := hr
        have e4 : ρ (.tmp 4) = .int .i64 (k : Int) := r4
        clear r4
        refine under_none rfl ?_
        exact ⟨e4, Below.refl _ _⟩
      case s10 =>
        intro ρ W hb hc hf hr
        obtain ⟨r23, r24, -⟩ := hr
        have e23 : ρ (.tmp 23) = .slice A n cap := r23
        clear r23
        have e24 : ρ (.tmp 24) = .int .i64 (k : Int) := r24
        clear r24
        refine under_none rfl ?_
        exact soft9_index e23 e24 (HIX.out W) rfl
      case s11 =>
        intro ρ W hb hc hf hr
        obtain ⟨r25, -⟩ := hr
        have e25 : ρ (.tmp 25) = .pointer (some p) := r25
        clear r25
        refine under_none rfl ?_
        exact soft_field e25 rfl (fun W => by go_simp)
      case s12 =>
        intro ρ W hb hc hf hr
        obtain ⟨r26, -⟩ := hr
        have e26 : ρ (.tmp 26) = .pointer (some ⟨p.block, p.off + 4, none⟩) := r26
        clear r26
        refine under_none rfl ?_
        exact soft_field e26 rfl (fun W => by go_simp)
      case s13 =>
        intro ρ W hb hc hf hr
        obtain ⟨r27, -⟩ := hr
        have e27 : ρ (.tmp 27) = .pointer (some ⟨p.block, p.off + 7, none⟩) := r27
        clear r27
        refine under_none rfl ?_
        exact soft_load e27 (H7.out W (hbd.trans (hb.mono (by simp)))) rfl
      case s14 =>
        intro ρ W hb hc hf hr
        obtain ⟨r28, -⟩ := hr
        have e28 : ρ (.tmp 28) = .slice ybA bn ybc := r28
        clear r28
        refine under_none rfl ?_
        simp [e28, go_sem, softUpon, Fact.is, Below.refl]
      case s15 =>
        intro ρ W hb hc hf hr
        obtain ⟨r22, r29, -⟩ := hr
        have e22 : ρ (.tmp 22) = .int .i64 tn := r22
        clear r22
        have e29 : ρ (.tmp 29) = .int .i64 bn := r29
        clear r29
        refine under_none rfl ?_
        exact soft_bin e22 e29 rfl rfl (add_any W _ _)
      case s16 =>
        intro ρ W hb hc hf hr
        obtain ⟨r0, -⟩ := hr
        have e0 : ρ (.tmp 0) = .slice A n cap := r0
        clear r0
        refine under_none rfl ?_
        exact ⟨e0, Below.refl _ _⟩
      case s17 =>
        intro ρ W hb hc hf hr
        obtain ⟨r4, -⟩ := hr
        have e4 : ρ (.tmp 4) = .int .i64 (k : Int) := r4
        clear r4
        refine under_none rfl ?_
        exact ⟨e4, Below.refl _ _⟩
      case s18 =>
        intro ρ W hb hc hf hr
        obtain ⟨r31, r32, -⟩ := hr
        have e31 : ρ (.tmp 31) = .slice A n cap := r31
        clear r31
        have e32 : ρ (.tmp 32) = .int .i64 (k : Int) := r32
        clear r32
        refine under_none rfl ?_
        exact soft9_index e31 e32 (HIX.out W) rfl
      case s19 =>
        intro ρ W hb hc hf hr
        obtain ⟨r33, -⟩ := hr
        have e33 : ρ (.tmp 33) = .pointer (some p) := r33
        clear r33
        refine under_none rfl ?_
        exact soft_field e33 rfl (fun W => by go_simp)
      case s20 =>
        intro ρ W hb hc hf hr
        obtain ⟨r34, -⟩ := hr
        have e34 : ρ (.tmp 34) = .pointer (some ⟨p.block, p.off + 4, none⟩) := r34
        clear r34
        refine under_none rfl ?_
        exact soft_field e34 rfl (fun W => by go_simp)
      case s21 =>
        intro ρ W hb hc hf hr
        obtain ⟨r35, -⟩ := hr
        have e35 : ρ (.tmp 35) = .pointer (some ⟨p.block, p.off + 8, none⟩) := r35
        clear r35
        refine under_none rfl ?_
        exact soft_load e35 (H8.out W (hbd.trans (hb.mono (by simp)))) rfl
      case s22 =>
        intro ρ W hb hc hf hr
        obtain ⟨r36, -⟩ := hr
        have e36 : ρ (.tmp 36) = .slice ykA kn ykc := r36
        clear r36
        refine under_none rfl ?_
        simp [e36, go_sem, softUpon, Fact.is, Below.refl]
      case s23 =>
        intro ρ W hb hc hf hr
        obtain ⟨r30, r37, -⟩ := hr
        have e30 : ρ (.tmp 30) = .int .i64 (IntKind.i64.wrap ((tn : Int) + (bn : Int))) := r30
        clear r30
        have e37 : ρ (.tmp 37) = .int .i64 kn := r37
        clear r37
        refine under_none rfl ?_
        exact soft_bin e30 e37 rfl rfl (add_any W _ _)
      case s24 =>
        intro ρ W hb hc hf hr
        obtain ⟨r0, -⟩ := hr
        have e0 : ρ (.tmp 0) = .slice A n cap := r0
        clear r0
        refine under_none rfl ?_
        exact ⟨e0, Below.refl _ _⟩
      case s25 =>
        intro ρ W hb hc hf hr
        obtain ⟨r4, -⟩ := hr
        have e4 : ρ (.tmp 4) = .int .i64 (k : Int) := r4
        clear r4
        refine under_none rfl ?_
        exact ⟨e4, Below.refl _ _⟩
      case s26 =>
        intro ρ W hb hc hf hr
        obtain ⟨r39, r40, -⟩ := hr
        have e39 : ρ (.tmp 39) = .slice A n cap := r39
        clear r39
        have e40 : ρ (.tmp 40) = .int .i64 (k : Int) := r40
        clear r40
        refine under_none rfl ?_
        exact soft9_index e39 e40 (HIX.out W) rfl
      case s27 =>
        intro ρ W hb hc hf hr
        obtain ⟨r41, -⟩ := hr
        have e41 : ρ (.tmp 41) = .pointer (some p) := r41
        clear r41
        refine under_none rfl ?_
        exact soft_field e41 rfl (fun W => by go_simp)
      case s28 =>
        intro ρ W hb hc hf hr
        obtain ⟨r42, -⟩ := hr
        have e42 : ρ (.tmp 42) = .pointer (some ⟨p.block, p.off + 4, none⟩) := r42
        clear r42
        refine under_none rfl ?_
        exact soft_field e42 rfl (fun W => by go_simp)
      case s29 =>
        intro ρ W hb hc hf hr
        obtain ⟨r43, -⟩ := hr
        have e43 : ρ (.tmp 43) = .pointer (some ⟨p.block, p.off + 9, none⟩) := r43
        clear r43
        refine under_none rfl ?_
        exact soft_load e43 (H9.out W (hbd.trans (hb.mono (by simp)))) rfl
      case s30 =>
        intro ρ W hb hc hf hr
        obtain ⟨r44, -⟩ := hr
        have e44 : ρ (.tmp 44) = .slice yhA hn yhc := r44
        clear r44
        refine under_none rfl ?_
        simp [e44, go_sem, softUpon, Fact.is, Below.refl]
      case s31 =>
        intro ρ W hb hc hf hr
        obtain ⟨r38, r45, -⟩ := hr
        have e38 : ρ (.tmp 38) = .int .i64 (IntKind.i64.wrap (IntKind.i64.wrap ((tn : Int) + (bn : Int)) + (kn : Int))) := r38
        clear r38
        have e45 : ρ (.tmp 45) = .int .i64 hn := r45
        clear r45
        refine under_none rfl ?_
        exact soft_bin e38 e45 rfl rfl (add_any W _ _)
      case s32 =>
        intro ρ W hb hc hf hr
        obtain ⟨r46, -⟩ := hr
        have e46 : ρ (.tmp 46) = .int .i64 (IntKind.i64.wrap (IntKind.i64.wrap (IntKind.i64.wrap ((tn : Int) + (bn : Int)) + (kn : Int)) + (hn : Int))) := r46
        clear r46
        refine under_none rfl ?_
        exact soft_min e46 (hc _) rfl
      case s33 =>
        intro ρ W hb hc hf hr
        obtain ⟨r15, r47, -⟩ := hr
        have e15 : ρ (.tmp 15) = .int .i64 z := r15
        clear r15
        have e47 : ρ (.tmp 47) = .int .i64 (min (IntKind.i64.wrap (IntKind.i64.wrap (IntKind.i64.wrap ((tn : Int) + (bn : Int)) + (kn : Int)) + (hn : Int))) 9000) := r47
        clear r47
        refine under_none rfl ?_
        exact soft_bin e15 e47 rfl rfl (add_any W _ _)
      case late =>
        intro p j o hj ho a W hsz h0 h1 hfr hou
        match p, hj with
        | 0, hj =>
          obtain rfl : 34 = j := Option.some.inj hj
          obtain rfl := Option.some.inj ho
          clear hj ho
          obtain ⟨hb, hhard⟩ := h0 rfl
          have e48 : a.eval (.tmp 48) = .int .i64 (IntKind.i64.wrap (z + min (IntKind.i64.wrap (IntKind.i64.wrap (IntKind.i64.wrap ((tn : Int) + (bn : Int)) + (kn : Int)) + (hn : Int))) 9000)) := hhard 48 33 rfl rfl
          clear h0 h1 hhard hfr hou
          refine late_assign rfl e48 ⟨_, rfl, ⟨_, by simp [Act.put, Array.getD_eq_getD_getElem?, hsz]; rfl⟩, hbd.trans (hb.mono (by simp))⟩
        | q + 1, hj => cases hj
      case fin =>
        intro a w2 ha hP
        obtain ⟨⟨z2, e3⟩, d2⟩ := hP
        have e3 : a.tmps.getD 3 undef = .int .i64 z2 := by simpa using e3
        simp only [List.foldl_cons, List.foldl_nil, e3] at ha
        clear e3
        generalize a.tmps.getD 15 undef = v15 at ha
        generalize a.tmps.getD 16 undef = v16 at ha
        generalize a.tmps.getD 17 undef = v17 at ha
        generalize a.tmps.getD 18 undef = v18 at ha
        generalize a.tmps.getD 19 undef = v19 at ha
        generalize a.tmps.getD 20 undef = v20 at ha
        generalize a.tmps.getD 21 undef = v21 at ha
        generalize a.tmps.getD 22 undef = v22 at ha
        generalize a.tmps.getD 23 undef = v23 at ha
        generalize a.tmps.getD 24 undef = v24 at ha
        generalize a.tmps.getD 25 undef = v25 at ha
        generalize a.tmps.getD 26 undef = v26 at ha
        generalize a.tmps.getD 27 undef = v27 at ha
        generalize a.tmps.getD 28 undef = v28 at ha
        generalize a.tmps.getD 29 undef = v29 at ha
        generalize a.tmps.getD 30 undef = v30 at ha
        generalize a.tmps.getD 31 undef = v31 at ha
        generalize a.tmps.getD 32 undef = v32 at ha
        generalize a.tmps.getD 33 undef = v33 at ha
        generalize a.tmps.getD 34 undef = v34 at ha
        generalize a.tmps.getD 35 undef = v35 at ha
        generalize a.tmps.getD 36 undef = v36 at ha
        generalize a.tmps.getD 37 undef = v37 at ha
        generalize a.tmps.getD 38 undef = v38 at ha
        generalize a.tmps.getD 39 undef = v39 at ha
        generalize a.tmps.getD 40 undef = v40 at ha
        generalize a.tmps.getD 41 undef = v41 at ha
        generalize a.tmps.getD 42 undef = v42 at ha
        generalize a.tmps.getD 43 undef = v43 at ha
        generalize a.tmps.getD 44 undef = v44 at ha
        generalize a.tmps.getD 45 undef = v45 at ha
        generalize a.tmps.getD 46 undef = v46 at ha
        generalize a.tmps.getD 47 undef = v47 at ha
        generalize a.tmps.getD 48 undef = v48 at ha
        simp only [Act.put, List.setIfInBounds_toArray, List.set_cons_succ, List.set_cons_zero] at ha
        subst ha
        have HB2 := Lib.hid (hB.trans (d2.mono hB.size))
        clear d2
        go_wp2
        go_roundw
        case rel => exact ⟨z2, k + 1, rfl, by go_num, by omega, HB2.out⟩
        case measure => simp [RowKit.intOf]; omega
    · by_cases hkn : k < n
      · have t1 : decide ((k : Int) < (n : Int)) = true := by simpa using hkn
        have t2 : decide (z < 9000) = false := by simp; omega
        have t3 : decide ((9000 : Int) ≤ z) = true := by simp; omega
        clear hgo
        go_wp2
        go_ret
        exact ⟨_, rfl, (fun h => by cases h), hB⟩
      · obtain rfl : k = n := by omega
        clear hgo
        by_cases hz : (9000 : Int) ≤ z
        · have t3 : decide ((9000 : Int) ≤ z) = true := by simp; omega
          go_wp2
          go_ret
          exact ⟨_, rfl, (fun h => by cases h), hB⟩
        · have t3 : decide ((9000 : Int) ≤ z) = false := by simp; omega
          obtain ⟨r, hr⟩ : ∃ r, decide ((100 : Int) < (k : Int)) = r := ⟨_, rfl⟩
          have HR := Lib.hid (show r = false → k ≤ 100 from fun h => by subst h; have := of_decide_eq_false hr; omega)
          go_wp2
          go_ret
          exact ⟨_, rfl, HR.out, hB⟩

end Go.Proofs.YtehnhjnkbclnlaaGreatDoor
