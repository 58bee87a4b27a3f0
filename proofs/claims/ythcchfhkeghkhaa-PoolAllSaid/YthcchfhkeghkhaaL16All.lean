/-
  PoolAll (turntablelaw16): holds for every input. No condition but that the inputs are a uint16 and a Go slice of calls. (Made by gen16/l16all.py.)
-/
import Derived.Test.YthcchfhkeghkhaaGrP
import Derived.BigRegion
import Derived.BigQuiet
import Derived.Deep.CutRange
import Derived.Test.YthcchfhkeghkhaaPoZ

namespace Go.Proofs.Ythcchfhkeghkhaa.poolAll
open Go.RowKit Go.Maps Po
set_option maxRecDepth 100000

/-! all spans, trace by trace -/
theorem sum_one (a : Int) : ∀ {I : List Int}, I.Nodup → a ∈ I → (I.map fun i => if a = i then 1 else 0).sum = 1
  | [], _, h => by cases h
  | b :: I, hn, h => by
    rw [List.nodup_cons] at hn
    rw [List.map_cons, List.sum_cons]
    by_cases e : a = b
    · subst e
      rw [if_pos rfl]
      have : (I.map fun i => if a = i then 1 else 0).sum = 0 := by
        have hz : ∀ J : List Int, a ∉ J → (J.map fun i => if a = i then 1 else 0).sum = 0 := by
          intro J
          induction J with
          | nil => intro _; rfl
          | cons c J ih =>
            intro hc
            rw [List.mem_cons, not_or] at hc
            rw [List.map_cons, List.sum_cons, if_neg hc.1, ih hc.2]
        exact hz I hn.1
      rw [this]
    · rw [if_neg e, sum_one a hn.2 ((List.mem_cons.1 h).resolve_left e)]
theorem sum_add (f g : Int → Nat) (I : List Int) : (I.map fun i => f i + g i).sum = (I.map f).sum + (I.map g).sum := by
  induction I with
  | nil => rfl
  | cons a I ih => simp only [List.map_cons, List.sum_cons, ih]; omega
theorem sum_of (I : List Int) (hn : I.Nodup) : ∀ G : List Plain.Sp, (∀ x ∈ G, x.t ∈ I) → (I.map fun i => (Po.of G i).length).sum = G.length
  | [], _ => by
    have : ∀ J : List Int, (J.map fun i => (Po.of [] i).length).sum = 0 := by
      intro J
      induction J with
      | nil => rfl
      | cons a J ih => rw [List.map_cons, List.sum_cons, ih]; rfl
    exact this I
  | x :: G, h => by
    have e : (fun i => (Po.of (x :: G) i).length) = fun i => (if x.t = i then 1 else 0) + (Po.of G i).length := by
      funext i
      have : Po.of (x :: G) i = (if x.t = i then [x] else []) ++ Po.of G i := by
        unfold Po.of
        by_cases hi : x.t = i <;> simp [hi]
      rw [this, List.length_append]
      split <;> rfl
    rw [e, sum_add, sum_one x.t hn (h x (by simp)), sum_of I hn G (fun y hy => h y (by simp [hy])), List.length_cons, Nat.add_comm]
def lens (G : List Plain.Sp) : List Nat := (Po.ids G).map fun i => (Po.part G i).length
theorem lens_sum (G : List Plain.Sp) : (lens G).sum = G.length := by
  unfold lens
  have e : (fun i => (Po.part G i).length) = fun i => (Po.of G i).length := funext fun i => part_len G i
  rw [e]
  exact sum_of _ ((ids_up G).imp fun h => by omega) G fun x hx => (ids_mem G x.t).2 ⟨x, hx, rfl⟩
theorem lens_take {G : List Plain.Sp} {k : Nat} (h : k < (Po.ids G).length) : ((lens G).take (k + 1)).sum = ((lens G).take k).sum + (Po.part G ((Po.ids G)[k])).length := by
  have h2 : k < (lens G).length := by simpa [lens] using h
  rw [List.take_succ_eq_append_getElem h2, List.sum_append]
  simp [lens]
theorem lens_le (G : List Plain.Sp) (k : Nat) : ((lens G).take k).sum ≤ G.length := by
  rw [← lens_sum G]
  conv => rhs; rw [← List.take_append_drop k (lens G), List.sum_append]
  omega
theorem drop_snoc (G : List Plain.Sp) (x : Plain.Sp) (i : Int) : Po.drop (G ++ [x]) i = if x.t ≠ i then Po.drop G i ++ [x] else Po.drop G i := by
  unfold Po.drop
  rw [List.filter_append]
  by_cases h : x.t = i <;> simp [h]
theorem sum_take_le (l : List Nat) (k : Nat) : (l.take k).sum ≤ l.sum := by
  conv => rhs; rw [← List.take_append_drop k l, List.sum_append]
  omega
theorem run_load16 (W : World) (a : Addr) (z : Int) (h : W.cell? a = some (.int .i64 z)) : (Instr.loadAt 2 (.pointer (some a))).run Try.prog W = .ok (.int .i64 z) W := by
  go_simp

theorem own_off16b {w w' : World} {base size n : Nat} {e : TypeId} {v : Value} {xs : List Value} {S : List Nat} (h : w.ownsRow base e size v n xs) (k : Kept S w w') (hS : ∀ s ∈ v.ownBlock.toList, s ∉ S) : w'.ownsRow base e size v n xs := by
  refine ⟨h.1, h.2.imp id ?_⟩
  rintro ⟨g, cap, cur, rfl, h2, h3, h4⟩
  exact ⟨g, cap, cur, rfl, h2, (k.block g (Array.getElem?_eq_some_iff.1 h3).1 (hS g (by simp [Value.ownBlock]))).trans h3, h4⟩
theorem grown_kept16 {w w' : World} {row : Option Nat} (hg : w.grownBy w' row) : Kept row.toList w w' := ⟨hg.os, hg.tape, hg.output, hg.size, fun k hk hn => hg.block k hk (fun e => hn (by rw [← e]; simp))⟩
theorem own_lt16 {w : World} {base size n : Nat} {v : Value} {e : TypeId} {xs : List Value} (h : w.ownsRow base e size v n xs) : ∀ r ∈ v.ownBlock.toList, r < w.heap.size ∧ base ≤ r := by
  intro r hr
  rcases h.2 with ⟨rfl, -⟩ | ⟨g, cap, cur, rfl, hb, hg, -⟩
  · cases hr
  · simp only [Value.ownBlock, Option.toList_some, List.mem_singleton] at hr
    subst hr
    exact ⟨(Array.getElem?_eq_some_iff.1 hg).1, hb⟩
/-- the pool, and a row of spans beside it -/
structure St (IsP : List Nat → World → Nat → List Nat → Int → List Plain.Sp → Prop) (B : Nat) (w : World) (p : Nat) (mo : Int) (v : Value) (Gr Gp : List Plain.Sp) : Prop where
  row : w.ownsRow B 45 7 v Gr.length (flat Gr)
  ex : ∃ O, IsP v.ownBlock.toList w p O mo Gp ∧ (∀ g ∈ O, B ≤ g) ∧ ∀ g ∈ v.ownBlock.toList, g ∉ O
section
variable {IsP : List Nat → World → Nat → List Nat → Int → List Plain.Sp → Prop} {B : Nat} {w w' : World} {p : Nat} {mo : Int} {v : Value} {Gr Gp G' : List Plain.Sp}
theorem St.isP (h : St IsP B w p mo v Gr Gp) : ∃ R O, IsP R w p O mo Gp := by
  obtain ⟨O, h1, -⟩ := h.ex
  exact ⟨_, O, h1⟩
/-- the pool did something -/
theorem St.step (h : St IsP B w p mo v Gr Gp) {O O' : List Nat} (hO : ∀ g ∈ O, B ≤ g) (hd : ∀ g ∈ v.ownBlock.toList, g ∉ O) (hB : B ≤ w.heap.size) (h2 : IsP v.ownBlock.toList w' p O' mo G') (k : Kept O w w') (o : ∀ g ∈ O', g ∈ O ∨ w.heap.size ≤ g) : St IsP B w' p mo v Gr G' :=
  ⟨own_off16b h.row k hd, O', h2, fun g hg => (o g hg).elim (hO g) (Nat.le_trans hB), fun g hg hm => (o g hm).elim (hd g hg) (fun h3 => by have := (own_lt16 h.row g hg).1; omega)⟩
variable (K : PoolOk IsP)
include K
theorem St.below (h : St IsP B w p mo v Gr Gp) (k : Below w.heap.size w w') : St IsP B w' p mo v Gr Gp := by
  obtain ⟨O, h1, h2, h3⟩ := h.ex
  exact ⟨row_keep h.row k, O, K.below h1 k, h2, h3⟩
/-- another row, of one's own -/
theorem St.row_new {v' : Value} {Gr' : List Plain.Sp} {B' : Nat} {w0 : World} (h : St IsP B w0 p mo v Gr Gp) (hb : Below w0.heap.size w0 w) (hr : w.ownsRow B' 45 7 v' Gr'.length (flat Gr')) (hB' : w0.heap.size ≤ B') (hB : B ≤ w0.heap.size) : St IsP B w p mo v' Gr' Gp := by
  obtain ⟨O, h1, h2, h3⟩ := h.ex
  have h4 : IsP v'.ownBlock.toList w0 p O mo Gp := K.more h1 fun s hs => .inr (Nat.le_trans hB' (own_lt16 hr s hs).2)
  refine ⟨?_, O, K.below h4 hb, h2, fun g hg hm => by have := K.own h1 g hm; have := (own_lt16 hr g hg).2; omega⟩
  refine ⟨hr.1, hr.2.imp id ?_⟩
  rintro ⟨g, cap, cur, e, h5, h6⟩
  exact ⟨g, cap, cur, e, by omega, h6⟩
/-- the row grew -/
theorem St.grow {v' : Value} {Gr' : List Plain.Sp} (h : St IsP B w p mo v Gr Gp) (hr : w'.ownsRow B 45 7 v' Gr'.length (flat Gr')) (hg : w.grownBy w' v.ownBlock) (hv : v'.ownBlock = v.ownBlock ∨ v'.ownBlock = some w.heap.size) : St IsP B w' p mo v' Gr' Gp := by
  obtain ⟨O, h1, h2, h3⟩ := h.ex
  have hk := grown_kept16 hg
  have hn : ∀ s ∈ v'.ownBlock.toList, s ∈ v.ownBlock.toList ∨ w.heap.size ≤ s := fun s hs => by
    rcases hv with e | e
    · rw [e] at hs; exact .inl hs
    · rw [e] at hs
      simp only [Option.toList_some, List.mem_singleton] at hs
      exact .inr (Nat.le_of_eq hs.symm)
  have h4 : IsP (v.ownBlock.toList ++ v'.ownBlock.toList) w p O mo Gp := K.more h1 fun s hs => (List.mem_append.1 hs).elim .inl (hn s)
  have h5 := K.keep h4 hk fun s hs => .inl (List.mem_append_left _ hs)
  exact ⟨hr, O, K.more h5 fun s hs => .inl (List.mem_append_right _ hs), h2, fun g hg hm => (hn g hg).elim (fun h6 => h3 g h6 hm) (fun h6 => by have := K.own h1 g hm; omega)⟩
end

set_option maxHeartbeats 16000000 in
theorem walkN {IsP : List Nat → World → Nat → List Nat → Int → List Plain.Sp → Prop} (hOk : PoolOk IsP) (w : World) (mo : Int) (ha : 0 ≤ mo ∧ mo ≤ 65535) (A : Option Addr) (n cap : Nat) (l : List O16) (hn : l.length = n) (hc : n ≤ cap) (hm : cap ≤ maxLen) (hA : Lies w A (flatO16 l)) (hI : ∀ o ∈ l, O16In w o) :
    Calls Try.prog 4 #[.int .u16 mo, .slice A n cap] w fun e w' => e = .returned (.bool true) ∧ Below w.heap.size w w' := by
  obtain ⟨i0, hi, hz0, hz1, hz2⟩ := info_parts infoSp
  have HK := Lib.hid hOk
  have HH := Lib.hid (head16_any hOk w)
  have HN := Lib.hid hn
  have HM := Lib.hid hm
  have HA := Lib.hid hA
  have HI := Lib.hid hI
  unfold maxLen at hm
  clear hOk hn hA hI
  go_enter Try.func4, Try.ntmps4
  go_wp2_with fail
  refine HH.out.mono ?_
  rintro e w1 ⟨rfl, d1⟩
  have HB1 := Lib.hid d1
  clear d1 HH
  go_wp2_with fail
  refine (HK.out.new [] mo w1 (by simp)).mono ?_
  rintro e w2 ⟨p, O, rfl, h2, ho2, d2⟩
  have HP2 := Lib.hid h2
  have HO2 := Lib.hid (fun g (hg : g ∈ O) => show w.heap.size ≤ g from Nat.le_trans HB1.out.size (ho2 g hg))
  have HB2 := Lib.hid (HB1.out.trans (d2.mono HB1.out.size))
  clear h2 ho2 d2 HB1
  go_wp2_with fail
  refine (great16_any A n cap l w2 HN.out hc HM.out (HA.out.below HB2.out) (fun o ho => (HI.out o ho).below HB2.out)).mono ?_
  rintro e w3 ⟨g, rfl, hg, d3⟩
  have HP3 := Lib.hid (HK.out.below HP2.out d3)
  have HB3 := Lib.hid (HB2.out.trans (d3.mono HB2.out.size))
  clear d3 HP2 HB2
  rcases g with _ | _
  rotate_left
  · go_wp2
    go_ret
    exact ⟨rfl, HB3.out⟩
  · obtain ⟨h40, -, hsum⟩ := hg rfl
    have HSUM := Lib.hid hsum
    clear hg hsum
    go_wp2
    go_loopw [7, 8] (fun s7 s8 wr => ∃ (k : Nat) (G : List Plain.Sp), s8 = .int .i64 (k : Int) ∧ k ≤ n ∧ St IsP w.heap.size wr p mo s7 G G ∧ G.length ≤ ((l.map fun o => o.l.length).take k).sum ∧ Below w.heap.size w wr) (fun _ i _ => n - (intOf i).toNat)
    case atStart => exact ⟨0, [], rfl, Nat.zero_le _, ⟨World.ownsRow_nil _ _ _ _, O, HP3.out, HO2.out, fun g hg => by cases hg⟩, by simp, HB3.out⟩
    case round =>
      obtain ⟨k, G, rfl, hk, hst, hlen, hbr⟩ := hrel
      have HST := Lib.hid hst
      have HBR := Lib.hid hbr
      have HLEN := Lib.hid hlen
      have hg300 : G.length ≤ 300 := Nat.le_trans hlen (Nat.le_trans (sum_take_le _ k) HSUM.out)
      clear hst hbr hlen HP3 HO2 HB3
      by_cases hlt : k < n
      · have hkl : k < l.length := by rw [HN.out]; exact hlt
        obtain ⟨ad, rfl, hadb, hcl⟩ := at_o16 HA.out k hkl
        obtain ⟨x0, x1, x2⟩ := hcl wr HBR.out
        have HOI := Lib.hid (HI.out _ (List.getElem_mem hkl))
        have HL2 := Lib.hid (show ((l.map fun o => o.l.length).take (k + 1)).sum = ((l.map fun o => o.l.length).take k).sum + (l[k]'hkl).l.length by
          rw [List.take_succ_eq_append_getElem (by rw [List.length_map]; exact hkl), List.sum_append]; simp)
        obtain ⟨o, ho⟩ : ∃ o, l[k]'hkl = o := ⟨_, rfl⟩
        rw [ho] at x0 x1 x2 HOI HL2
        clear hcl ho
        have y := Blk.new wr #[.int .i64 o.what, .slice o.A o.l.length o.cap, .int .i64 o.id] 31
        have hba : Below wr.heap.size wr (wr.alloc (.cells #[.int .i64 o.what, .slice o.A o.l.length o.cap, .int .i64 o.id] 31)) := (Below.refl _ _).alloc (Nat.le_refl _) _
        obtain ⟨O1, hp0, hO1, hd1⟩ := HST.out.ex
        have HP1 := Lib.hid (HK.out.below hp0 hba)
        have HO1 := Lib.hid hO1
        have HD1 := Lib.hid hd1
        have HOL := Lib.hid (show wr.heap.size ∉ O1 from fun h => by have := HK.out.own hp0 _ h; omega)
        have HS1 := Lib.hid (HST.out.below HK.out hba)
        clear hp0 hO1 hd1
        have HB1 := Lib.hid (HBR.out.trans (hba.mono HBR.out.size))
        have HY := Lib.hid (fun (W : World) (hW : Below (wr.alloc (.cells #[.int .i64 o.what, .slice o.A o.l.length o.cap, .int .i64 o.id] 31)).heap.size (wr.alloc (.cells #[.int .i64 o.what, .slice o.A o.l.length o.cap, .int .i64 o.id] 31)) W) => (Kept.of hW []).blk y (by simp))
        obtain ⟨wa, hwa⟩ : ∃ wa, wr.alloc (.cells #[.int .i64 o.what, .slice o.A o.l.length o.cap, .int .i64 o.id] 31) = wa := ⟨_, rfl⟩
        rw [hwa] at HS1 HB1 HY HP1
        have HZA := Lib.hid (show wr.heap.size < wa.heap.size by rw [← hwa]; simp)
        have HWA := Lib.hid hwa
        clear y hba hwa HST HBR
        go_upto_if 49 with (fail)
        rw [HWA.out]
        clear HWA x0 x1 x2
        generalize wr.heap.size = gb at *
        go_cut [7, 10, 11] from 37 to 87 (fun s7 _ _ wc => ∃ G', St IsP w.heap.size wc p mo s7 G' G' ∧ G'.length ≤ ((l.map fun o => o.l.length).take (k + 1)).sum ∧ Below w.heap.size w wc)
        case first =>
          have hy := HY.out wa (Below.refl _ _)
          have y1 : wa.cell? ⟨gb, 1, none⟩ = some (.slice o.A o.l.length o.cap) := hy.cell 1
          have y2 : wa.cell? ⟨gb, 2, none⟩ = some (.int .i64 o.id) := hy.cell 2
          have y0 : wa.cell? ⟨gb, 0, none⟩ = some (.int .i64 o.what) := hy.cell 0
          have HYB := Lib.hid hy
          clear hy
          have HR1 := Lib.hid (fun s (hs : s ∈ u7.ownBlock.toList) => (own_lt16 HS1.out.row s hs).1)
          by_cases hw3 : o.what = 3
          · have t3 : (o.what == 3) = true := by simpa using hw3
            have HT := Lib.hid (HK.out.take HP1.out HR1.out o.id)
            clear hw3
            go_wp2_with fail
            refine HT.out.mono ?_
            rintro e w4 ⟨rfl, O4, h4, k4, o4⟩
            have HS4 := Lib.hid (HS1.out.step HO1.out HD1.out HB1.out.size h4 k4 o4)
            have HB4 := Lib.hid (Kept.below HB1.out k4 HO1.out)
            have HY4 := Lib.hid (k4.blk HYB.out HOL.out)
            clear h4 k4 o4 HT HS1 HB1 y0 y1 y2 HYB HP1 HO1 HD1 HR1 HOL
            obtain ⟨A7, c7, rfl, h71, h72, h73, -⟩ := row_form16 HS4.out.row
            have HL7 := Lib.hid (show Lies w4 A7 (flat G) from h73.elim (fun h => .inl (by have e := List.eq_nil_of_length_eq_zero h; rw [e]; rfl)) id)
            obtain ⟨N7, hN7⟩ : ∃ N7, G.length = N7 := ⟨_, rfl⟩
            rw [hN7] at h71 hg300 HS4 ⊢
            have HN7 := Lib.hid hN7
            unfold maxLen at h72
            clear h73 hN7
            go_wp2
            go_loopw [10, 11] (fun s10 s11 wx => ∃ (j m : Nat) (B10 : Option Addr) (c10 : Nat), s11 = .int .i64 (j : Int) ∧ j ≤ N7 ∧ s10 = .slice B10 m c10 ∧ (Po.drop (G.take j) o.id).length = m ∧ m ≤ j ∧ wx.ownsRow w4.heap.size 45 7 (.slice B10 m c10) m (flat (Po.drop (G.take j) o.id)) ∧ Below w4.heap.size w4 wx) (fun _ i _ => N7 - (intOf i).toNat)
            case atStart => exact ⟨0, 0, none, 0, rfl, Nat.zero_le _, rfl, rfl, Nat.zero_le _, World.ownsRow_nil _ _ _ _, Below.refl _ _⟩
            case round =>
              obtain ⟨j, m, B10, c10, rfl, hj, rfl, hm10, hmj, hr10, hb10⟩ := hrel
              have HR10 := Lib.hid hr10
              have HW := Lib.hid hb10
              have HM10 := Lib.hid hm10
              clear hr10 hb10 hm10
              by_cases hj7 : j < N7
              · have hjG : j < G.length := by rw [HN7.out]; exact hj7
                obtain ⟨a7, rfl, ha7b, hc7⟩ := at_span HL7.out j hjG
                have HT1 := Lib.hid (show G.take (j + 1) = G.take j ++ [G[j]] from List.take_succ_eq_append_getElem hjG)
                obtain ⟨x, hx⟩ : ∃ x, G[j]'hjG = x := ⟨_, rfl⟩
                simp only [hx] at hc7
                rw [hx] at HT1
                have HX := Lib.hid (fun (W : World) (hW : Below w4.heap.size w4 W) => hc7 W hW)
                obtain ⟨q0, -⟩ := hc7 _ HW.out
                have z2 : wr.cell? ⟨gb, 2, none⟩ = some (.int .i64 o.id) := ((Kept.of HW.out []).blk HY4.out (by simp)).cell 2
                have hix := fun (W : World) => show (Instr.indexAt 29 (.slice (some a7) N7 c7) (.int .i64 (j : Int))).run Try.prog W = .ok (.pointer (some (a7.add (j * 7)))) W by go_simp
                clear hc7 hx hjG
                by_cases hid : x.t = o.id
                · have tq : (x.t != o.id) = false := by simpa using hid
                  have HTE := Lib.hid (show Po.drop (G.take (j + 1)) o.id = Po.drop (G.take j) o.id by rw [HT1.out, drop_snoc, if_neg (by simpa using hid)])
                  clear hid
                  go_wp2
                  go_quiet (fail)
                  go_wp2
                  go_roundw
                  case rel =>
                    exact ⟨j + 1, m, B10, c10, by go_num, by omega, rfl, by rw [HTE.out]; exact HM10.out, by omega, by rw [HTE.out]; exact row_keep HR10.out (below_many (Below.refl _ _) _), below_many HW.out _⟩
                  case measure => simp [intOf]; omega
                · have tq : (x.t != o.id) = true := by simpa using hid
                  have HTE := Lib.hid (show Po.drop (G.take (j + 1)) o.id = Po.drop (G.take j) o.id ++ [x] by rw [HT1.out, drop_snoc, if_pos hid])
                  clear hid
                  go_wp2
                  go_quiet (fail)
                  obtain ⟨wq, hwq⟩ : ∃ wq, wr.drewN nq = wq := ⟨_, rfl⟩
                  rw [hwq]
                  have HWQ := Lib.hid (show Below w4.heap.size w4 wq by rw [← hwq]; exact below_many HW.out _)
                  have HRQ := Lib.hid (show wq.ownsRow w4.heap.size 45 7 (.slice B10 m c10) m (flat (Po.drop (G.take j) o.id)) by rw [← hwq]; exact row_keep HR10.out (below_many (Below.refl _ _) _))
                  obtain ⟨v0, v1, v2, v3, v4, v5, v6⟩ := HX.out wq HWQ.out
                  have HTF := Lib.hid (show flat (Po.drop (G.take j) o.id) ++ [.int .i64 x.t, .int .i64 x.i, .int .i64 x.p, .int .i64 x.s, .int .i64 x.d, .string (str x.sv), .string (str x.nm)] = flat (Po.drop (G.take (j + 1)) o.id) by rw [HTE.out, flat_append]; rfl)
                  have HTL := Lib.hid (show (Po.drop (G.take (j + 1)) o.id).length = m + 1 by rw [HTE.out, List.length_append, HM10.out]; rfl)
                  generalize flat (Po.drop (G.take j) o.id) = F0 at *
                  clear hwq q0 z2 HW HR10
                  go_wp2_with (at_builtin; refine wpList_appK rfl _ _ 29 rfl w4.heap.size 45 i0 (.agg #[.int .i64 0, .int .i64 0, .int .i64 0, .int .i64 0, .int .i64 0, .string ⟨#[]⟩, .string ⟨#[]⟩]) 7 72 Try.underlying29 hi hz0 hz1 hz2 rfl (by decide) _ m F0 rfl ?b1 (some ⟨wq.heap.size, 0, none⟩) 1 1 [.int .i64 x.t, .int .i64 x.i, .int .i64 x.p, .int .i64 x.s, .int .i64 x.d, .string (str x.sv), .string (str x.nm)] rfl rfl ?b2 ?b3 ?b4 ?b5 ?b6 ?b7)
                  case b1 => exact HRQ.out.alloc _
                  case b2 => exact Lies.new wq #[.int .i64 x.t, .int .i64 x.i, .int .i64 x.p, .int .i64 x.s, .int .i64 x.d, .string (str x.sv), .string (str x.nm)] _
                  case b3 => simp [Value.oneCell']
                  case b4 => unfold maxLen; omega
                  case b5 => omega
                  case b6 => have := HWQ.out.size; simp; omega
                  case b7 =>
                    intro v3 w5 hown3 hg3 _
                    have HB5 := Lib.hid ((HWQ.out.alloc HWQ.out.size (.cells #[.int .i64 x.t, .int .i64 x.i, .int .i64 x.p, .int .i64 x.s, .int .i64 x.d, .string (str x.sv), .string (str x.nm)] 45)).grown hg3 (Nat.le_trans HWQ.out.size (by simp)) (fun g e => (own_lt16 HRQ.out g (by rw [e]; simp)).2))
                    rw [HTF.out] at hown3
                    obtain ⟨B11, c11, rfl, -⟩ := row_form16 hown3
                    have HO3 := Lib.hid hown3
                    clear hown3 hg3
                    go_wp2
                    go_roundw
                    case rel => exact ⟨j + 1, m + 1, B11, c11, by go_num, by omega, rfl, HTL.out, by omega, HO3.out, HB5.out⟩
                    case measure => simp [intOf]; omega
              · obtain rfl : j = N7 := by omega
                have HFE := Lib.hid (show Po.drop (G.take j) o.id = Po.drop G o.id by rw [List.take_of_length_le (by rw [HN7.out]; omega)])
                rw [HFE.out] at HR10 HM10
                have HNEW := Lib.hid (St.row_new HK.out HS4.out HW.out (v' := .slice B10 m c10) (Gr' := Po.drop G o.id) (by rw [HM10.out]; exact HR10.out) (Nat.le_refl _) HB4.out.size)
                have HBE := Lib.hid (HB4.out.trans (HW.out.mono HB4.out.size))
                go_wp2
                go_meet
                exact ⟨_, HNEW.out, by have := HLEN.out; have := HL2.out; have := HM10.out; have := HN7.out; omega, HBE.out⟩
          · have t3 : (o.what == 3) = false := by simpa using hw3
            by_cases hw4 : o.what < 3
            · have t4 : decide (o.what < 3) = true := decide_eq_true hw4
              obtain ⟨c, hcc⟩ : ∃ c, codes mo G o.l = c := ⟨_, rfl⟩
              have HCC := Lib.hid hcc
              have HT := Lib.hid (HK.out.add_as HP1.out HR1.out o.A o.l.length o.cap o.l rfl HOI.out.le HOI.out.cap (HOI.out.lies.below HB1.out) (Off.of HOI.out.lies HO1.out) HOI.out.fine hcc rfl)
              clear hw3 hw4 hcc
              go_wp2_with fail
              refine HT.out.mono ?_
              rintro e w4 ⟨rfl, O4, h4, k4, o4⟩
              have HS4 := Lib.hid (HS1.out.step HO1.out HD1.out HB1.out.size h4 k4 o4)
              have HB4 := Lib.hid (Kept.below HB1.out k4 HO1.out)
              have HY4 := Lib.hid (k4.blk HYB.out HOL.out)
              clear h4 k4 o4 HT HS1 HB1 y0 y1 y2 HYB HP1 HO1 HD1 HR1 HOL
              by_cases hc0 : c = 0
              · have t5 : (c == 0) = true := by simpa using hc0
                have HPU := Lib.hid (show put mo G o.l = G ++ o.l by unfold put; rw [if_pos (HCC.out.trans hc0)])
                rw [HPU.out] at HS4
                have z1 : w4.cell? ⟨gb, 1, none⟩ = some (.slice o.A o.l.length o.cap) := HY4.out.cell 1
                have hlo : o.l.length ≤ 300 := by
                  have h1 := HL2.out
                  have h2 := sum_take_le (l.map fun o => o.l.length) (k + 1)
                  have h3 := HSUM.out
                  omega
                have HFL := Lib.hid (flat_length o.l)
                have HLO := Lib.hid (HOI.out.lies.below HB4.out)
                have HLN := Lib.hid (show (G ++ o.l).length = G.length + o.l.length from List.length_append)
                have HFA := Lib.hid (flat_append G o.l)
                clear hc0
                go_wp2_with (at_builtin; refine wpList_appK rfl _ _ 29 rfl w.heap.size 45 i0 (.agg #[.int .i64 0, .int .i64 0, .int .i64 0, .int .i64 0, .int .i64 0, .string ⟨#[]⟩, .string ⟨#[]⟩]) 7 72 Try.underlying29 hi hz0 hz1 hz2 rfl (by decide) _ G.length (flat G) rfl ?b1 o.A o.l.length o.cap (flat o.l) rfl HFL.out ?b2 (flat_one7 o.l) ?b4 ?b5 ?b6 ?b7)
                case b1 => exact HS4.out.row
                case b2 => exact HLO.out
                case b4 => unfold maxLen; omega
                case b5 => omega
                case b6 => exact HB4.out.size
                case b7 =>
                  intro v5 w5 hown5 hg5 hb5
                  rw [← HFA.out, ← HLN.out] at hown5
                  have HS5 := Lib.hid (St.grow HK.out HS4.out hown5 hg5 hb5)
                  have HB5 := Lib.hid (HB4.out.grown hg5 HB4.out.size (fun g e => (own_lt16 HS4.out.row g (by rw [e]; simp)).2))
                  clear hown5 hg5 hb5 z1
                  go_wp2
                  go_meet
                  exact ⟨_, HS5.out, by have := HLEN.out; have := HL2.out; have := HLN.out; omega, HB5.out⟩
              · have t5 : (c == 0) = false := by simpa using hc0
                have HPU := Lib.hid (show put mo G o.l = G by unfold put; rw [if_neg (by rw [HCC.out]; exact hc0)])
                rw [HPU.out] at HS4
                clear hc0
                go_wp2
                go_meet
                exact ⟨_, HS4.out, by have := HLEN.out; have := HL2.out; omega, HB4.out⟩
            · have t4 : decide (o.what < 3) = false := decide_eq_false hw4
              clear hw3 hw4
              go_wp2
              go_meet
              exact ⟨_, HS1.out, by have := HLEN.out; have := HL2.out; omega, HB1.out⟩
        case rest =>
          obtain ⟨G1, hs1, hl1, hb1⟩ := hcut
          have HS := Lib.hid hs1
          have HB := Lib.hid hb1
          have HLG := Lib.hid hl1
          have hg3 : G1.length ≤ 300 := Nat.le_trans hl1 (Nat.le_trans (sum_take_le _ _) HSUM.out)
          clear hs1 hb1 hl1 HS1 HB1 HY HP1 HO1 HD1 HOL HLEN HL2 hg300
          obtain ⟨R1, P1, hp1⟩ := HS.out.isP
          have HP := Lib.hid hp1
          have HOK := Lib.hid (HK.out.ok hp1)
          clear hp1
          obtain ⟨A7, c7, rfl, -⟩ := row_form16 HS.out.row
          obtain ⟨N7, hN7⟩ : ∃ N7, G1.length = N7 := ⟨_, rfl⟩
          have HN7 := Lib.hid hN7
          rw [hN7] at HS ⊢
          obtain ⟨m, hm2⟩ : ∃ m, (Po.ids G1).length = m := ⟨_, rfl⟩
          have HMM := Lib.hid hm2
          have hm64 : m ≤ 64 := by rw [← hm2]; exact HOK.out.many
          clear hm2 hN7
          go_wp2_with fail
          refine (HK.out.ids_as HP.out rfl HMM.out).mono ?_
          rintro e w5 ⟨AI, cI, rfl, hi1, hi2, hiL, hio, d5⟩
          have HP5 := Lib.hid (HK.out.below HP.out d5)
          have HS5 := Lib.hid (HS.out.below HK.out d5)
          have HI5 := Lib.hid hiL
          have HB5 := Lib.hid (HB.out.trans (d5.mono HB.out.size))
          clear d5 hiL hio HP HS HB
          unfold maxLen at hi2
          go_wp2
          go_loopw [12, 14] (fun s12 s14 wx => ∃ j : Nat, s14 = .int .i64 (j : Int) ∧ j ≤ m ∧ s12 = .int .i64 ((((lens G1).take j).sum : Nat) : Int) ∧ Below w5.heap.size w5 wx) (fun _ i _ => m - (intOf i).toNat)
          case atStart => exact ⟨0, rfl, Nat.zero_le _, rfl, Below.refl _ _⟩
          case round =>
            obtain ⟨j, rfl, hj, rfl, hb6⟩ := hrel
            have HW := Lib.hid hb6
            clear hb6
            by_cases hjm : j < m
            · have hji : j < (Po.ids G1).length := by rw [HMM.out]; exact hjm
              obtain ⟨ai, rfl, haib, hci⟩ := at_num HI5.out j hji
              obtain ⟨i, hi⟩ : ∃ i, (Po.ids G1)[j]'hji = i := ⟨_, rfl⟩
              have HLT := Lib.hid (lens_take hji)
              have HLL := Lib.hid (lens_le G1 (j + 1))
              rw [hi] at HLT
              simp only [hi] at hci
              have z0 := hci _ HW.out
              have HII := Lib.hid (show i ∈ Po.ids G1 by rw [← hi]; exact List.getElem_mem hji)
              obtain ⟨s, hs⟩ : ∃ s, (Po.part G1 i).length = s := ⟨_, rfl⟩
              rw [hs] at HLT
              have HSS := Lib.hid hs
              have hs0 : 0 < s := by rw [← hs]; exact List.length_pos_iff.2 (part_num HII.out).1
              have HPW := Lib.hid (HK.out.below HP5.out HW.out)
              obtain ⟨S0, hS0⟩ : ∃ S0, ((lens G1).take j).sum = S0 := ⟨_, rfl⟩
              rw [hS0] at HLT ⊢
              have hS3 : S0 + s ≤ 300 := by have := HLT.out; have := HLL.out; omega
              have ts0 : ((s : Int) == 0) = false := by rw [beq_eq_false_iff_ne]; omega
              clear hci hi hs hji hS0
              go_wp2_with fail
              refine (HK.out.get_as HPW.out i (decide_eq_true HII.out) rfl HSS.out).mono ?_
              rintro e w6 ⟨AX, cX, rfl, -, -, -, -, d6⟩
              have HW6 := Lib.hid (HW.out.trans (d6.mono HW.out.size))
              clear d6 z0 HPW
              go_wp2
              go_roundw
              case rel => exact ⟨j + 1, by go_num, by omega, by rw [HLT.out]; go_num, HW6.out⟩
              case measure => simp [intOf]; omega
            · obtain rfl : j = m := by omega
              have HSE := Lib.hid (show ((lens G1).take j).sum = N7 by rw [List.take_of_length_le (by rw [show (lens G1).length = (Po.ids G1).length from List.length_map _, HMM.out]; omega), lens_sum, HN7.out])
              have HE := Lib.hid (HB5.out.trans (HW.out.mono HB5.out.size))
              have HSE2 := Lib.hid (HS5.out.below HK.out HW.out)
              rw [HSE.out]
              go_wp2
              go_roundw
              case rel => exact ⟨k + 1, G1, by go_num, by omega, HSE2.out, HLG.out, HE.out⟩
              case measure => simp [intOf]; omega
      · obtain rfl : k = n := by omega
        obtain ⟨wz, rfl⟩ : ∃ wz, wz = wr := ⟨_, rfl⟩
        obtain ⟨R1, P1, hp1⟩ := HST.out.isP
        have HP := Lib.hid hp1
        have HOK := Lib.hid (HK.out.ok hp1)
        clear hp1
        obtain ⟨A7, c7, rfl, h71, h72, h73, -⟩ := row_form16 HST.out.row
        have HL7 := Lib.hid (show Lies wz A7 (flat G) from h73.elim (fun h => .inl (by have e := List.eq_nil_of_length_eq_zero h; rw [e]; rfl)) id)
        obtain ⟨N7, hN7⟩ : ∃ N7, G.length = N7 := ⟨_, rfl⟩
        rw [hN7] at h71 hg300 ⊢
        have HN7 := Lib.hid hN7
        unfold maxLen at h72
        clear h73 hN7 HST
        go_wp2
        go_loopw [17] (fun s17 wx => ∃ j : Nat, s17 = .int .i64 (j : Int) ∧ j ≤ N7 ∧ Below wz.heap.size wz wx) (fun i _ => N7 - (intOf i).toNat)
        case atStart => exact ⟨0, rfl, Nat.zero_le _, Below.refl _ _⟩
        case round =>
          obtain ⟨j, rfl, hj, hbx⟩ := hrel
          have HW := Lib.hid hbx
          clear hbx
          by_cases hj7 : j < N7
          · have hjG : j < G.length := by rw [HN7.out]; exact hj7
            obtain ⟨a7, rfl, ha7b, hc7⟩ := at_span HL7.out j hjG
            obtain ⟨x, hx⟩ : ∃ x, G[j]'hjG = x := ⟨_, rfl⟩
            simp only [hx] at hc7
            have HXM := Lib.hid (show x ∈ G by rw [← hx]; exact List.getElem_mem hjG)
            have HII := Lib.hid (show x.t ∈ Po.ids G from (ids_mem G x.t).2 ⟨x, HXM.out, rfl⟩)
            have HXP := Lib.hid (show x ∈ Po.part G x.t from part_mem.2 ⟨HXM.out, rfl⟩)
            obtain ⟨q0, -⟩ := hc7 _ HW.out
            have HX := Lib.hid (fun (W : World) (hW : Below wz.heap.size wz W) => hc7 W hW)
            have hixx := fun (W : World) => show (Instr.indexAt 29 (.slice (some a7) N7 c7) (.int .i64 (j : Int))).run Try.prog W = .ok (.pointer (some (a7.add (j * 7)))) W by go_simp
            clear hc7 hx hjG
            obtain ⟨P, hP⟩ : ∃ P, Po.part G x.t = P := ⟨_, rfl⟩
            rw [hP] at HXP
            obtain ⟨s, hs⟩ : ∃ s, P.length = s := ⟨_, rfl⟩
            have HSS := Lib.hid hs
            have hs64 : s ≤ 64 := by rw [← hs, ← hP, part_len]; exact HOK.out.few _
            have HG := Lib.hid (HK.out.get_as (HK.out.below HP.out HW.out) x.t (decide_eq_true HII.out) hP hs)
            clear hs hP
            go_wp2_with fail
            refine HG.out.mono ?_
            rintro e wa ⟨AX, cX, rfl, hx1, hx2, hxL, -, da⟩
            have HXL := Lib.hid hxL
            have HWA := Lib.hid (HW.out.trans (da.mono HW.out.size))
            unfold maxLen at hx2
            clear hxL da HG q0
            go_wp2
            go_loopw [20, 21] (fun s20 s21 wy => ∃ i : Nat, s21 = .int .i64 (i : Int) ∧ i ≤ s ∧ s20 = .bool (decide (x ∈ P.take i)) ∧ Below wa.heap.size wa wy) (fun _ i _ => s - (intOf i).toNat)
            case atStart => exact ⟨0, rfl, Nat.zero_le _, by simp, Below.refl _ _⟩
            case round =>
              obtain ⟨i, rfl, hi, rfl, hby⟩ := hrel
              have HY := Lib.hid hby
              clear hby
              obtain ⟨b, hb⟩ : ∃ b, decide (x ∈ P.take i) = b := ⟨_, rfl⟩
              rw [hb]
              have HBB := Lib.hid hb
              clear hb
              by_cases his : i < s
              · have hiP : i < P.length := by rw [HSS.out]; exact his
                obtain ⟨ax, rfl, haxb, hcx⟩ := at_span HXL.out i hiP
                have HT1 := Lib.hid (show P.take (i + 1) = P.take i ++ [P[i]] from List.take_succ_eq_append_getElem hiP)
                obtain ⟨y, hy⟩ : ∃ y, P[i]'hiP = y := ⟨_, rfl⟩
                simp only [hy] at hcx
                rw [hy] at HT1
                have HDE := Lib.hid (show decide (x ∈ P.take (i + 1)) = (b || decide (y = x)) by
                  rw [HT1.out, ← HBB.out, ← Bool.decide_or]
                  congr 1
                  apply propext
                  rw [List.mem_append, List.mem_singleton, eq_comm (a := x)])
                obtain ⟨y0, y1, y2, y3, y4, y5, y6⟩ := hcx _ HY.out
                obtain ⟨x0, x1, x2, x3, x4, x5, x6⟩ := HX.out _ (HWA.out.trans (HY.out.mono HWA.out.size))
                have hiy := fun (W : World) => show (Instr.indexAt 29 (.slice (some ax) s cX) (.int .i64 (i : Int))).run Try.prog W = .ok (.pointer (some (ax.add (i * 7)))) W by go_simp
                have heq := fun (W : World) => eq_sp W y x
                clear hcx hy hiP
                obtain ⟨D, hD⟩ : ∃ D, decide (y = x) = D := ⟨_, rfl⟩
                rw [hD] at HDE
                simp only [hD] at heq
                clear hD
                rcases b with _ | _
                · go_wp2
                  go_quiet (fail)
                  go_wp2
                  go_roundw
                  case rel => exact ⟨i + 1, by go_num, by omega, by rw [HDE.out]; rfl, below_many HY.out _⟩
                  case measure => simp [intOf]; omega
                · go_wp2
                  go_quiet (fail)
                  go_wp2
                  go_roundw
                  case rel => exact ⟨i + 1, by go_num, by omega, by rw [HDE.out]; rfl, below_many HY.out _⟩
                  case measure => simp [intOf]; omega
              · obtain rfl : i = s := by omega
                obtain rfl : b = true := by rw [← HBB.out, List.take_of_length_le (by rw [HSS.out]; omega)]; exact decide_eq_true HXP.out
                have HWY := Lib.hid (HWA.out.trans (HY.out.mono HWA.out.size))
                go_wp2
                go_roundw
                case rel => exact ⟨j + 1, by go_num, by omega, HWY.out⟩
                case measure => simp [intOf]; omega
          · obtain rfl : j = N7 := by omega
            have HE := Lib.hid (HBR.out.trans (HW.out.mono HBR.out.size))
            go_wp2
            go_ret
            exact ⟨rfl, HE.out⟩

open Go.ChangeShapes Go.WideShapes Go.ChangeAt

theorem walk (w : World) (a : Int) (ha : 0 ≤ a ∧ a ≤ 65535) (A : Option Addr) (cap : Nat) (l : List O16) (hl : l.length ≤ cap) (hm : cap ≤ maxLen) (hA : Lies w A (flatO16 l)) (hQ : ∀ u ∈ l, O16In w u) :
    Calls Try.prog 4 #[.int .u16 a, .slice A l.length cap] w fun e w' => e = .returned (.bool true) ∧ Below w.heap.size w w' :=
  walkN poolOk w a ha A l.length cap l rfl hl hm hA hQ

set_option maxRecDepth 100000 in
theorem lifted (os : Os) (started : os.Started) (H : Type) (enc : TypeId × Value → H) :
    ReturnsInHanded {} Try.checked os 4 .any (Rows.poolAllSpec.pre6 enc Try.prog Try.f4 Rows.poolAllRow.domain false) (Rows.poolAllSpec.post enc Try.prog Try.f4 false true false false) := by
  refine returnsInHanded_of_change (C := Try.checked) own started (by kernel_rfl) Try.func4
    (ChangeSpec.witness6 (enc := enc) (C := Try.checked) false ⟨#[], #[.int .u16 0, .slice none 0 0], []⟩ 8 (by kernel_rfl) (by kernel_rfl) (by kernel_rfl) (by kernel_rfl)) ?_
  intro W base args ds gs before hval0 hW hcnd _
  have hval : ∀ (j : Nat) t v, Try.f4.params[j]? = some t → args[j]? = some v → Value.okWide Try.prog W .any base t v := hval0
  have hfin := fun W' => law_post (enc := enc) (P := Try.prog) (f := Try.f4) (s := Rows.poolAllSpec) (tb := 4) (W := W) (W' := W') (args := args) (ds := ds) (gs := gs) (before := before) laidOut rfl (by kernel_rfl) Try.underlying4 (by kernel_rfl) (fun xs h => by rw [Try.params4] at h; match xs, h with | [_, _], _ => rfl) hW
  have hlt : ∀ x ∈ before, x.block < W.heap.size := fun x hx => hW.lt x hx
  obtain ⟨p, q, hA0, hV, rfl, hfz, hnd⟩ := hW
  have hA : DataW.TrodAll enc Try.prog W 0 (fun _ => true) true Try.f4.params.toList args.toList ds p := hA0
  rw [Try.params4] at hA hval
  obtain ⟨v0, vs0, d0, ds0, p0, q0, hargs, rfl, rfl, h0, r0⟩ := trodAll_cons hA
  obtain ⟨v1, vs1, d1, ds1, p1, q1, rfl, rfl, rfl, h1, r1⟩ := trodAll_cons r0
  obtain ⟨rfl, rfl, rfl⟩ := trodAll_nil r1
  obtain rfl : args = #[v0, v1] := by cases args; simp_all
  obtain ⟨a0, rfl, rfl, rfl, w0⟩ := open_int Try.underlying43 (hval 0 43 v0 rfl rfl) h0
  obtain ⟨A1, cap1, l1, rfl, hl1, hm1, hB1, hQ1⟩ := open_ops16 (hval 1 22 v1 rfl rfl) h1 (fun x hx => hlt x (by simp [hx]))
  refine (walk W a0 (bounds_u16 w0) A1 cap1 l1 hl1 hm1 hB1 hQ1).mono fun e W' ⟨he, hg⟩ => ?_
  subst he
  exact ⟨_, rfl, hfin W' hg⟩

theorem proved : Rows.PoolAllSaid :=
  OpenClaim.holds_of_wide 4 Try.f4 rfl rfl rfl rfl rfl rfl rfl ⟨rfl, rfl, rfl, rfl, rfl⟩ rfl rfl rfl rfl rfl (by kernel_rfl) Try.func4 (by kernel_rfl)
    (of_decide_eq_true (by kernel_rfl)) (by unfold Func.isWrapper; first | (rw [if_pos (by decide +kernel)]; kernel_rfl) | (rw [if_neg (by decide +kernel)]; exact ⟨rfl, rfl⟩))
    (fun os started H enc _ => lifted os started H enc)
#print axioms proved
end Go.Proofs.Ythcchfhkeghkhaa.poolAll
