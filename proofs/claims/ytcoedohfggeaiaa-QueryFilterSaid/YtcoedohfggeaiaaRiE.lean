/-
  Layer 14, the document's answer: Put of its index: what it answers, of any index. Nothing is assumed but that it lies in memory.
-/
import Derived.Test.YtcoedohfggeaiaaRiD
import Derived.Test.YtcoedohfggeaiaaSoftQ
import Derived.BigRegion
import Derived.BigQuiet
import Derived.Deep.CutRange

namespace Go.Proofs.Ytcoedohfggeaiaa
open Go.RowKit Go.Maps En
set_option maxRecDepth 100000

/-- an entry with a list of its own, just made -/
structure OwnT (B : Nat) (w : World) (t : Ent) (y : E) : Prop where
  e : t.e = y
  own : w.ownsRow B 9 1 (.slice t.A y.sv.length t.cap) y.sv.length (strs y.sv)
theorem OwnT.below {B : Nat} {w w' : World} {t : Ent} {y : E} (h : OwnT B w t y) (hb : Below w.heap.size w w') : OwnT B w' t y := ⟨h.e, row_keep h.own hb⟩
theorem own_apart {w : World} {B B' s s' n n' : Nat} {e e' : TypeId} {v v' : Value} {xs xs' : List Value} (h : w.ownsRow B e s v n xs) (h' : w.ownsRow B' e' s' v' n' xs') (hne : e ≠ e') : ∀ g ∈ v.ownBlock.toList, g ∉ v'.ownBlock.toList := by
  intro g hg hg'
  rcases h.2 with ⟨rfl, -⟩ | ⟨b, c, cu, rfl, -, hh, -⟩
  · cases hg
  · rcases h'.2 with ⟨rfl, -⟩ | ⟨b', c', cu', rfl, -, hh', -⟩
    · cases hg'
    · simp only [Value.ownBlock, Option.toList_some, List.mem_singleton] at hg hg'
      subst hg
      rw [hg', hh'] at hh
      injection hh with hh
      injection hh with _ h2
      exact hne h2.symm
theorem OwnT.grown {B B' n : Nat} {w w' : World} {t : Ent} {y : E} {v : Value} {xs : List Value} (h : OwnT B w t y) (hr : w.ownsRow B' 29 13 v n xs) (hg : w.grownBy w' v.ownBlock) : OwnT B w' t y :=
  ⟨h.e, own_off14 h.own (grown_kept hg) (own_apart hr h.own (by decide))⟩
theorem OwnT.svs {B : Nat} {w : World} {t : Ent} {y : E} (h : OwnT B w t y) (h9 : y.sv.length ≤ 9000) : Svs w y.sv t.A t.cap ∧ ∀ ad, t.A = some ad → B ≤ ad.block := by
  obtain ⟨A, c, e, h1, h2, h3, h4, -⟩ := row_form h.own
  injection e with e1 e2 e3
  subst e1 e3
  refine ⟨⟨h9, h1, h2, ?_⟩, h4⟩
  rcases h3 with h3 | h3
  · rw [nil_of_len h3]; exact .inl rfl
  · exact h3
def Fact.own14 (B : Nat) (y : E) : Fact := ⟨fun u w => ∃ t : Ent, OwnT B w t y ∧ u = .agg (enA t.e (.slice t.A t.e.sv.length t.cap)), fun _ _ _ ⟨t, h, e⟩ hb => ⟨t, h.below hb, e⟩⟩
def Fact.one14 (B : Nat) (y : E) : Fact := ⟨fun u w => ∃ t : Ent, OwnT B w t y ∧ (Fact.lie 1 (flatEn [t])).φ u w, fun _ _ _ ⟨t, h, e⟩ hb => ⟨t, h.below hb, (Fact.lie 1 (flatEn [t])).keep _ _ _ e hb⟩⟩
theorem soft_one14 {w : World} {ρ : Operand → Value} {o : Oper} {y : Operand} {B : Nat} {x : E} (hy : (Fact.own14 B x).φ (ρ y) w) (ho : o.op = .buildSlice 22 1 #[(0, y)]) : softUpon Try.prog w (Fact.one14 B x) ((execOp ρ o).run Try.prog w) := by
  obtain ⟨t, ht, hy⟩ := hy
  unfold enA at hy
  have hr : (execOp ρ o).run Try.prog w = .ok (.value (.slice (some ⟨w.heap.size, 0, none⟩) 1 1)) (w.alloc (.cells (enA t.e (.slice t.A t.e.sv.length t.cap)) 29)) := by
    unfold enA
    simp [execOp, ho, hy, go_sem]
  rw [hr]
  exact ⟨⟨t, ht.below ((Below.refl _ _).alloc (Nat.le_refl _) _), _, _, rfl, lies_made w _ _ _ _ rfl rfl⟩, (Below.refl _ _).alloc (Nat.le_refl _) _⟩
theorem late_appG14 {W : World} {a : Act} {o : Oper} {s x : Operand} {B n m : Nat} {l k : List Ent} {K : Act → World → Prop} {Q : Exit → Act → World → Prop} (hs : W.ownsRow B 29 13 (a.eval s) n (flatEn l)) (hx : (Fact.lie m (flatEn k)).φ (a.eval x) W) (hm : k.length = m) (hb : n + m ≤ 1001) (hB : B ≤ W.heap.size) (ho : o.op = .call { callee := .builtin .append, args := #[s, x], argTypes := #[22, 22] })
    (hK : ∀ v w', w'.ownsRow B 29 13 v (n + m) (flatEn (l ++ k)) → W.grownBy w' (a.eval s).ownBlock → K (a.put o.dst v) w') : o.wp Try.prog a W K Q := by
  obtain ⟨i, hi, hz0, hz1, hz2⟩ := info_parts infoEn
  obtain ⟨A, c, ex, hA⟩ := hx
  obtain ⟨v', w', hr, h2, h3, h4⟩ := app_k (P := Try.prog) W B 22 o.type 29 i _ 13 120 Try.underlying22 hi hz0 hz1 hz2 rfl (by decide) (a.eval s) n (flatEn l) hs A m c (flatEn k) (by rw [flatEn_length, hm]) hA (flatEn_one k) (by unfold maxLen; omega) (by omega) hB
  unfold Oper.wp
  have hq : (execOp a.eval o).run Try.prog W = .ok (.value v') w' := by
    simp only [execOp, ho, resolve, invoke, builtin, Sem.run_bind, Sem.run_pure, Result.andThen_ok, List.map_toArray, List.map_cons, List.map_nil, ex, hr]
  rw [hq]
  rw [← flatEn_append] at h2
  exact hK v' w' h2 h3
/-- what the last operations of Put's statement come to -/
def PutP (B k n r : Nat) (y : E) (ts : List Ent) (W : World) (p : Nat) (vs : List Value) (w : World) : Prop :=
  (p < 5 → Below B W w) ∧
  (p = 1 → ∃ t, OwnT B w t y ∧ w.ownsRow B 29 13 (vs.getD 0 undef) (k + 1) (flatEn (ts.take k ++ [t]))) ∧
  (2 ≤ p → p ≤ 4 → ∃ t, OwnT B w t y ∧ w.ownsRow B 29 13 (vs.getD 1 undef) (n + 1) (flatEn (ts.take k ++ [t] ++ ts.drop k))) ∧
  (3 ≤ p → p ≤ 4 → vs.getD 2 undef = .pointer (some ⟨r, 0, none⟩)) ∧ (p = 4 → vs.getD 3 undef = .pointer (some ⟨r, 0, none⟩)) ∧
  (p = 5 → ∃ t v w1, Below B W w1 ∧ OwnT B w1 t y ∧ w1.ownsRow B 29 13 v (n + 1) (flatEn (ts.take k ++ [t] ++ ts.drop k)) ∧ w = w1.setCell ⟨r, 0, none⟩ v)

section
variable {S : List Nat} {w : World} {r : Nat} {m : List E}
set_option maxHeartbeats 8000000 in
theorem rput14_any (h : IsRef S w r m) (hO : Ok m) (hm : m.length < 1000) (hS : ∀ s ∈ S, s < w.heap.size) (y : E) (yA : Option Addr) (sn yc : Nat) (hsn : y.sv.length = sn) (hsv : Svs w y.sv yA yc) (hyo : Off [r] yA (strs y.sv)) :
    Calls Try.prog 28 #[.pointer (some ⟨r, 0, none⟩), .agg (enA y (.slice yA sn yc))] w fun e w' => e = .returned (.bool (En.get m y.id).isSome) ∧ IsRef S w' r (En.put m y) ∧ Kept [r] w w' := by
  have hb1 := BoxE.new w y (.slice yA sn yc)
  have hB1 : Below w.heap.size w (w.alloc (.cells (enA y (.slice yA sn yc)) 29)) := (Below.refl _ _).alloc (Nat.le_refl _) _
  have hrB : r ≠ w.heap.size := fun e => by have := h.lt; omega
  obtain ⟨W1, hW1⟩ : ∃ W1, w.alloc (.cells (enA y (.slice yA sn yc)) 29) = W1 := ⟨_, rfl⟩
  obtain ⟨B0, hB0⟩ : ∃ B0, w.heap.size = B0 := ⟨_, rfl⟩
  rw [hW1] at hb1 hB1
  rw [hB0] at hb1 hrB
  have HD := Lib.hid (rdel14_any (h.below hB1) hO.uq (fun s hs => Nat.lt_of_lt_of_le (hS s hs) hB1.size) y.id)
  have HB1 := Lib.hid hB1
  have HX1 := Lib.hid hb1
  have HSV := Lib.hid (hsv.below hB1)
  have HYO := Lib.hid hyo
  have HSN := Lib.hid hsn
  have HSN9 := Lib.hid (show y.sv.length ≤ 9000 from hsv.few)
  have HO := Lib.hid hO
  have HM := Lib.hid hm
  have HS := Lib.hid (fun s hs => Nat.lt_of_lt_of_le (hS s hs) hB1.size)
  have HRB := Lib.hid hrB
  have HB0 := Lib.hid hB0
  have HW1 := Lib.hid (show w.alloc (.cells #[.int .i64 y.id, .int .i64 y.cl, .int .i64 y.tick, .int .i64 y.cost, .bool y.pin, .int .i64 y.bid, .int .i64 y.lo, .int .i64 y.hi, .int .i64 y.many, .slice yA sn yc, .int .i64 y.seq, .int .i64 y.pl, .int .i64 y.sz] 29) = W1 from hW1)
  obtain ⟨G, hG⟩ : ∃ G, (En.get m y.id).isSome = G := ⟨_, rfl⟩
  rw [hG] at HD ⊢
  have HGG := Lib.hid hG
  clear h hb1 hB1 hW1 hO hm hS hsn hsv hyo hrB hB0 hG
  unfold enA
  go_enter Try.func28, Try.ntmps28
  go_wp2_with fail
  rw [HW1.out, HB0.out]
  refine HD.out.mono ?_
  rintro e w2 ⟨rfl, hI2, hk2⟩
  obtain ⟨A, cap, ts, hbx, ht, h1, h2, hl, -, hok⟩ := hI2.row
  have h1000 := hI2.few
  have hb2 := hk2.blk HX1.out (by simp; exact fun e => HRB.out e.symm)
  have HI2 := Lib.hid hI2
  have HK2 := Lib.hid hk2
  have HX2 := Lib.hid hb2
  have HSV2 := Lib.hid (HSV.out.kept HYO.out hk2)
  have HS2 := Lib.hid (fun s hs => Nat.lt_of_lt_of_le (HS.out s hs) hk2.size)
  have HL := Lib.hid hl
  have HT := Lib.hid ht
  have HOK := Lib.hid hok
  have HPM := Lib.hid (show En.put m y = ins y (En.del m y.id) from rfl)
  have HNM := Lib.hid (show (En.del m y.id).length < 1000 from Nat.lt_of_le_of_lt (List.length_filter_le ..) HM.out)
  obtain ⟨M, hM⟩ : ∃ M, En.del m y.id = M := ⟨_, rfl⟩
  rw [hM] at hbx h1 h1000 HI2 HT HPM HNM
  clear hM
  obtain ⟨n, hn⟩ : ∃ n, M.length = n := ⟨_, rfl⟩
  rw [hn] at h1 h1000 hbx HNM
  have HBX := Lib.hid hbx
  have HN := Lib.hid hn
  have HTL := Lib.hid (show ts.length = n by rw [← hn, ← HT.out, List.length_map])
  have hn1000 := HNM.out
  clear hI2 hbx ht hl hok hn hk2 hb2 HX1 HSV HS HD HNM
  unfold maxLen at h2
  have HC0 := Lib.hid (fun (W : World) (hW : Below w2.heap.size w2 W) => show W.cell? ⟨r, 0, none⟩ = some (.slice A n cap) from ((Kept.of hW []).blk HBX.out (by simp)).cell 0)
  go_wp2
  go_loopw [6] (fun s wr => ∃ k : Nat, s = .int .i64 (k : Int) ∧ k ≤ n ∧ Below w2.heap.size w2 wr ∧ ∀ j (hj : j < M.length), j < k → En.lt M[j] y = true) (fun s _ => n - (intOf s).toNat)
  case atStart => exact ⟨0, rfl, Nat.zero_le _, Below.refl _ _, fun j _ h => by omega⟩
  case round =>
    obtain ⟨k, rfl, hk, hbr, hlt⟩ := hrel
    have HBR := Lib.hid hbr
    have HLT := Lib.hid hlt
    have c0 := HC0.out wr hbr
    obtain ⟨b0, -, b2, -⟩ := BoxE.all (BoxE.below HX2.out hbr)
    clear hlt hbr
    obtain ⟨L, hL⟩ : ∃ L : Bool, L = (if h : k < M.length then En.lt M[k] y else false) := ⟨_, rfl⟩
    have HLL := Lib.hid hL
    clear hL
    go_upto_region 3 with (fail)
    go_cut [63] from 12 to 65 (fun s wc => s = .bool L ∧ Below wr.heap.size wr wc)
    case first =>
      by_cases hkn : k < n
      · have hkM : k < M.length := by rw [HN.out]; exact hkn
        have hkt : k < ts.length := by rw [HTL.out]; exact hkn
        obtain ⟨ad, rfl, hadb, hcl⟩ := at_ent HL.out k hkt
        have hte : ts[k].e = M[k] := by have := HT.out; subst this; simp
        obtain ⟨d0, -, d2, -⟩ := ent_all (hcl wr HBR.out)
        rw [hte] at d0 d2
        have hLv : L = En.lt M[k] y := by rw [HLL.out, dif_pos hkM]
        have hix := fun (W : World) => show (Instr.indexAt 22 (.slice (some ad) n cap) (.int .i64 (k : Int))).run Try.prog W = .ok (.pointer (some (ad.add (k * 13)))) W by go_simp
        have hkn' : decide ((k : Int) < (n : Int)) = true := decide_eq_true (by omega)
        generalize M[k] = z at *
        generalize ad.add (k * 13) = q at *
        clear hcl hte hkM hkt
        have HLV := Lib.hid hLv
        clear hLv
        by_cases h3 : z.tick < y.tick
        · have t1 : decide (z.tick < y.tick) = true := decide_eq_true h3
          obtain rfl : L = true := by rw [HLV.out, lt_iff]; exact .inl h3
          go_quiet (fail)
          go_wp2_with fail
          go_meet
          exact ⟨rfl, below_many (Below.refl _ _) _⟩
        · have t1 : decide (z.tick < y.tick) = false := decide_eq_false h3
          by_cases h4 : z.tick = y.tick
          · have t2 : (z.tick == y.tick) = true := by simpa using h4
            by_cases h5 : z.id < y.id
            · have t3 : decide (z.id < y.id) = true := decide_eq_true h5
              obtain rfl : L = true := by rw [HLV.out, lt_iff]; exact .inr ⟨h4, h5⟩
              have H4 := Lib.hid h4
              clear h4
              go_quiet (fail)
              go_wp2_with fail
              go_meet
              exact ⟨rfl, below_many (Below.refl _ _) _⟩
            · have t3 : decide (z.id < y.id) = false := decide_eq_false h5
              obtain rfl : L = false := by rw [HLV.out, lt_no]; omega
              have H4 := Lib.hid h4
              clear h4
              go_quiet (fail)
              go_wp2_with fail
              go_meet
              exact ⟨rfl, below_many (Below.refl _ _) _⟩
          · have t2 : (z.tick == y.tick) = false := beq_eq_false_iff_ne.2 h4
            obtain rfl : L = false := by rw [HLV.out, lt_no]; omega
            go_quiet (fail)
            go_wp2_with fail
            go_meet
            exact ⟨rfl, below_many (Below.refl _ _) _⟩
      · have hkn' : decide ((k : Int) < (n : Int)) = false := decide_eq_false (by omega)
        obtain rfl : L = false := by rw [HLL.out, dif_neg (by rw [HN.out]; exact hkn)]
        go_quiet (fail)
        go_wp2_with fail
        go_meet
        exact ⟨rfl, below_many (Below.refl _ _) _⟩
    case rest =>
      obtain ⟨rfl, hbc⟩ := hcut
      have HBC := Lib.hid (HBR.out.trans (hbc.mono HBR.out.size))
      clear hbc c0 b0 b2
      cases L with
      | true =>
        have hkn : k < n := by
          by_cases h : k < M.length
          · rw [← HN.out]; exact h
          · have := HLL.out; rw [dif_neg h] at this; cases this
        go_wp2
        go_roundw
        case rel =>
          refine ⟨k + 1, by go_num, by omega, HBC.out, fun j hj hlt' => ?_⟩
          by_cases e : j < k
          · exact HLT.out j hj e
          · obtain rfl : j = k := by omega
            have := HLL.out
            rw [dif_pos hj] at this
            exact this.symm
        case measure => simp [intOf]; omega
      | false =>
        have HEX := Lib.hid (show ∀ h : k < M.length, En.lt M[k] y = false from fun h => by have := HLL.out; rw [dif_pos h] at this; exact this.symm)
        have HC1 := Lib.hid (fun (W : World) (hW : Below wc.heap.size wc W) => HC0.out W (HBC.out.trans (hW.mono HBC.out.size)))
        have HL1 := Lib.hid (HL.out.below HBC.out)
        have HLB := Lib.hid (fun (W : World) (hW : Below wc.heap.size wc W) => run_loadEn W B0 y yA sn yc (BoxE.below (BoxE.below HX2.out HBC.out) hW))
        have HOW := Lib.hid (fun (W : World) (hW : Below wc.heap.size wc W) => rown14_any y yA sn yc W HSN.out ((HSV2.out.below HBC.out).below hW))
        have HOR := Lib.hid (fun (W : World) (hW : Below wc.heap.size wc W) => show ∀ (e : Ending) (w' : World), (∃ v, e = .returned (.agg (enA y v)) ∧ w'.ownsRow W.heap.size 9 1 v sn (strs y.sv) ∧ Below W.heap.size W w') → ∃ v, e = .returned v ∧ (Fact.own14 wc.heap.size y).φ v w' ∧ Below W.heap.size W w' from fun e w' ⟨v, he, ho, hb⟩ => by
          obtain ⟨A', c', rfl, -⟩ := row_form ho
          have ho' := own_mono14 ho hW.size
          rw [← HSN.out] at ho' he
          exact ⟨_, he, ⟨⟨y, A', c'⟩, ⟨rfl, ho'⟩, rfl⟩, hb⟩)
        have HI1 := Lib.hid (HI2.out.below HBC.out)
        have HS1 := Lib.hid (fun s hs => Nat.lt_of_lt_of_le (HS2.out s hs) HBC.out.size)
        have HOK1 := Lib.hid (HOK.out.below HBC.out)
        have HBX1 := Lib.hid ((Kept.of HBC.out []).blk HBX.out (by simp))
        have hAr : A = none → n = 0 := by rw [← HTL.out]; exact lies_noneE HL.out
        have hbd : Below wc.heap.size wc wc.drew := (Below.refl _ _).drew
        clear HLL HC0 HL HX2 HSV2 HI2 HOK HBX HS2
        have HC0 := HC1
        have HL := HL1
        clear HC1 HL1
        go_wp2
        refine wp_lateQ (by kernel_rfl) (fun W => W.cell? ⟨r, 0, none⟩ = some (.slice A n cap)) 89 [(66, [0]), (67, []), (68, [0]), (69, [68]), (70, [69]), (71, [70]), (72, [6]), (73, [71, 72]), (74, [67, 73]), (75, [3]), (76, [75]), (77, [76]), (1012, [74, 77]), (79, [0]), (80, [79]), (81, [80]), (82, [81]), (83, [6]), (84, [82, 83]), (1019, [78, 84]), (1020, [66]), (1021, [86]), (1022, [87, 85])]
          [Fact.is (.pointer (some ⟨r, 0, none⟩)), Fact.fresh wc.heap.size 29, Fact.is (.pointer (some ⟨r, 0, none⟩)), Fact.is (.pointer (some ⟨r, 0, none⟩)), Fact.is (.pointer (some ⟨r, 0, none⟩)), Fact.is (.slice A n cap), Fact.is (.int .i64 (k : Int)), Fact.lie k (flatEn (ts.take k)), Fact.row wc.heap.size 29 13 k (flatEn (ts.take k)), Fact.is (.agg (enA y (.slice yA sn yc))), Fact.own14 wc.heap.size y, Fact.one14 wc.heap.size y, default, Fact.is (.pointer (some ⟨r, 0, none⟩)), Fact.is (.pointer (some ⟨r, 0, none⟩)), Fact.is (.pointer (some ⟨r, 0, none⟩)), Fact.is (.slice A n cap), Fact.is (.int .i64 (k : Int)), Fact.is (.slice (if cap = k then A else A.map (·.add (k * 13))) (n - k) (cap - k)), default, default, default, default]
          [0, 1, 1, 1, 1, 1, 1, 1, 1, 1, 1, 1, 2, 0, 0, 0, 0, 0, 0, 2, 2, 2, 2] [12, 19, 20, 21, 22] [78, 85, 86, 87] [66, 67, 68, 69, 70, 71, 72, 73, 74, 75, 76, 77, 78, 79, 80, 81, 82, 83, 84, 85, 86, 87] (PutP wc.heap.size k n r y ts wc)
          (by kernel_rfl) (by kernel_rfl) rfl rfl (fun W hW => HC0.out W (hbd.trans (hW.mono (by simp)))) (fun p vs W hp hP => HC0.out W (hP.1 hp)) (by kernel_rfl) ⟨?s0, ?s1, ?s2, ?s3, ?s4, ?s5, ?s6, ?s7, ?s8, ?s9, ?s10, ?s11, ?s13, ?s14, ?s15, ?s16, ?s17, ?s18, trivial⟩ ?late ?fin
        case s0 =>
          refine ⟨rfl, _, rfl, ?_⟩
          intro ρ W hI hc hf hr
          obtain ⟨r0, -⟩ := hr
          have e0 : ρ (.tmp 0) = .pointer (some ⟨r, 0, none⟩) := r0
          clear r0
          simp [execOp, e0]
        case s1 =>
          intro ρ W hb hc hf hr
          clear hr
          refine under_none rfl ?_
          exact soft_freshE (hbd.trans (hb.mono (by simp))).size rfl
        case s2 =>
          intro ρ W hb hc hf hr
          obtain ⟨r0, -⟩ := hr
          have e0 : ρ (.tmp 0) = .pointer (some ⟨r, 0, none⟩) := r0
          clear r0
          refine under_none rfl ?_
          exact ⟨e0, Below.refl _ _⟩
        case s3 =>
          intro ρ W hb hc hf hr
          obtain ⟨r68, -⟩ := hr
          have e68 : ρ (.tmp 68) = .pointer (some ⟨r, 0, none⟩) := r68
          clear r68
          refine under_none rfl ?_
          simp [execOp, e68, go_sem, softUpon, Fact.is, Below.refl]
        case s4 =>
          intro ρ W hb hc hf hr
          obtain ⟨r69, -⟩ := hr
          have e69 : ρ (.tmp 69) = .pointer (some ⟨r, 0, none⟩) := r69
          clear r69
          refine under_none rfl ?_
          exact soft_field e69 rfl (fun W => by go_simp)
        case s5 =>
          intro ρ W hb hc hf hr
          obtain ⟨r70, -⟩ := hr
          have e70 : ρ (.tmp 70) = .pointer (some ⟨r, 0, none⟩) := r70
          clear r70
          refine under_none rfl ?_
          exact soft_load e70 (run_loadEs W _ _ (HC0.out W (hbd.trans (hb.mono (by simp))))) rfl
        case s6 =>
          intro ρ W hb hc hf hr
          obtain ⟨r6, -⟩ := hr
          have e6 : ρ (.tmp 6) = .int .i64 (k : Int) := r6
          clear r6
          refine under_none rfl ?_
          exact ⟨e6, Below.refl _ _⟩
        case s7 =>
          intro ρ W hb hc hf hr
          obtain ⟨r71, r72, -⟩ := hr
          have e71 : ρ (.tmp 71) = .slice A n cap := r71
          clear r71
          have e72 : ρ (.tmp 72) = .int .i64 (k : Int) := r72
          clear r72
          refine under_none rfl ?_
          exact soft_takeLE e71 e72 HTL.out hk h1 h2 (HL.out.below (hbd.trans (hb.mono (by simp)))) rfl
        case s8 =>
          intro ρ W hb hc hf hr
          obtain ⟨r67, r73, -⟩ := hr
          refine under_none rfl ?_
          exact soft_app0LE r67 r73 (by rw [List.length_take, HTL.out]; omega) (by omega) rfl
        case s9 =>
          intro ρ W hb hc hf hr
          obtain ⟨r3, -⟩ := hr
          have e3 : ρ (.tmp 3) = .pointer (some ⟨B0, 0, none⟩) := r3
          clear r3
          refine under_none rfl ?_
          exact soft_load e3 (HLB.out W (hbd.trans (hb.mono (by simp)))) rfl
        case s10 =>
          intro ρ W hb hc hf hr
          obtain ⟨r75, -⟩ := hr
          have e75 : ρ (.tmp 75) = .agg (enA y (.slice yA sn yc)) := r75
          clear r75
          refine under_none rfl ?_
          exact soft_call1 hf e75 (HOW.out W (hbd.trans (hb.mono (by simp)))) rfl (by kernel_rfl) (HOR.out W (hbd.trans (hb.mono (by simp))))
        case s11 =>
          intro ρ W hb hc hf hr
          obtain ⟨r76, -⟩ := hr
          refine under_none rfl ?_
          exact soft_one14 r76 rfl
        case s13 =>
          refine ⟨rfl, _, rfl, ?_⟩
          intro ρ W hI hc hf hr
          obtain ⟨r0, -⟩ := hr
          have e0 : ρ (.tmp 0) = .pointer (some ⟨r, 0, none⟩) := r0
          clear r0
          simp [execOp, e0]
        case s14 =>
          refine ⟨rfl, _, rfl, ?_⟩
          intro ρ W hI hc hf hr
          obtain ⟨r79, -⟩ := hr
          have e79 : ρ (.tmp 79) = .pointer (some ⟨r, 0, none⟩) := r79
          clear r79
          exact run_nilOp e79 rfl
        case s15 =>
          refine ⟨rfl, _, rfl, ?_⟩
          intro ρ W hI hc hf hr
          obtain ⟨r80, -⟩ := hr
          have e80 : ρ (.tmp 80) = .pointer (some ⟨r, 0, none⟩) := r80
          clear r80
          exact run_fieldOp e80 rfl (by go_simp)
        case s16 =>
          refine ⟨rfl, _, rfl, ?_⟩
          intro ρ W hI hc hf hr
          obtain ⟨r81, -⟩ := hr
          have e81 : ρ (.tmp 81) = .pointer (some ⟨r, 0, none⟩) := r81
          clear r81
          exact free_load e81 (run_loadEs W _ _ hI) rfl
        case s17 =>
          refine ⟨rfl, _, rfl, ?_⟩
          intro ρ W hI hc hf hr
          obtain ⟨r6, -⟩ := hr
          have e6 : ρ (.tmp 6) = .int .i64 (k : Int) := r6
          clear r6
          simp [execOp, e6]
        case s18 =>
          refine ⟨rfl, _, rfl, ?_⟩
          intro ρ W hI hc hf hr
          obtain ⟨r82, r83, -⟩ := hr
          have e82 : ρ (.tmp 82) = .slice A n cap := r82
          clear r82
          have e83 : ρ (.tmp 83) = .int .i64 (k : Int) := r83
          clear r83
          exact run_dropLE e82 e83 hk h1 h2 hAr rfl
        case late =>
          intro p j o hj ho a W hsz h0 h1 hfr hou
          match p, hj with
          | 0, hj =>
            obtain rfl : 12 = j := Option.some.inj hj
            obtain rfl := Option.some.inj ho
            clear hj ho
            obtain ⟨hb, hhard⟩ := h0 rfl
            have r74 : (Fact.row wc.heap.size 29 13 k (flatEn (ts.take k))).φ (a.tmps.getD 74 undef) W := hhard 74 8 rfl rfl
            have r77 : (Fact.one14 wc.heap.size y).φ (a.tmps.getD 77 undef) W := hhard 77 11 rfl rfl
            clear h0 h1 hhard hfr hou
            have hW := hbd.trans (hb.mono (by simp))
            obtain ⟨t, ht, hlie⟩ := r77
            refine late_appG14 (s := .tmp 74) (x := .tmp 77) (n := k) (m := 1) (l := ts.take k) (k := [t]) r74 hlie rfl (by omega) hW.size rfl fun v w' ho hg => ⟨v, rfl, ?_⟩
            exact ⟨fun _ => hW.grown hg hW.size (fun g hg => (World.ownsRow.lt r74 g hg).1), fun _ => ⟨t, ht.grown r74 hg, by simpa [Act.put, Array.getD_eq_getD_getElem?, hsz] using ho⟩, fun h => absurd h (by omega), fun h => absurd h (by omega), fun h => absurd h (by omega), fun h => absurd h (by omega)⟩
          | 1, hj =>
            obtain rfl : 19 = j := Option.some.inj hj
            obtain rfl := Option.some.inj ho
            clear hj ho
            have hP := h1 (by omega)
            have e84 : a.eval (.tmp 84) = .slice (if cap = k then A else A.map (·.add (k * 13))) (n - k) (cap - k) := hfr 84 18 rfl rfl (by kernel_rfl)
            clear h0 h1 hfr hou
            have hW := hP.1 (by omega)
            obtain ⟨t, ht, ho⟩ := hP.2.1 rfl
            have ho' : W.ownsRow wc.heap.size 29 13 (a.eval (.tmp 78)) (k + 1) (flatEn (ts.take k ++ [t])) := by simpa [Act.eval] using ho
            refine late_appG14 (s := .tmp 78) (x := .tmp 84) (n := k + 1) (m := n - k) (l := ts.take k ++ [t]) (k := ts.drop k) ho' ⟨_, _, e84, drop_liesE HTL.out h1 (HL.out.below hW)⟩ (by rw [List.length_drop, HTL.out]) (by omega) hW.size rfl fun v w' ho2 hg => ⟨v, rfl, ?_⟩
            have ejk : k + 1 + (n - k) = n + 1 := by omega
            rw [ejk] at ho2
            exact ⟨fun _ => hW.grown hg hW.size (fun g hg => (ho'.lt g hg).1), fun h => absurd h (by omega), fun _ _ => ⟨t, ht.grown ho' hg, by simpa [Act.put, Array.getD_eq_getD_getElem?, hsz] using ho2⟩, fun h => absurd h (by omega), fun h => absurd h (by omega), fun h => absurd h (by omega)⟩
          | 2, hj =>
            obtain rfl : 20 = j := Option.some.inj hj
            obtain rfl := Option.some.inj ho
            clear hj ho
            have hP := h1 (by omega)
            have e66 : a.eval (.tmp 66) = .pointer (some ⟨r, 0, none⟩) := hfr 66 0 rfl rfl (by kernel_rfl)
            clear h0 h1 hfr hou
            have hW := hP.1 (by omega)
            obtain ⟨t, ht, ho⟩ := hP.2.2.1 (by omega) (by omega)
            refine late_value (v := .pointer (some ⟨r, 0, none⟩)) (run_nilOp e66 rfl) ⟨_, rfl, ?_⟩
            exact ⟨fun _ => hW, fun h => absurd h (by omega), fun _ _ => ⟨t, ht, by simpa [Act.put, Array.getD_eq_getD_getElem?, hsz] using ho⟩, fun _ _ => by simp [Act.put, Array.getD_eq_getD_getElem?, hsz], fun h => absurd h (by omega), fun h => absurd h (by omega)⟩
          | 3, hj =>
            obtain rfl : 21 = j := Option.some.inj hj
            obtain rfl := Option.some.inj ho
            clear hj ho
            have hP := h1 (by omega)
            clear h0 h1 hfr hou
            have hW := hP.1 (by omega)
            obtain ⟨t, ht, ho⟩ := hP.2.2.1 (by omega) (by omega)
            have h86 := hP.2.2.2.1 (by omega) (by omega)
            have e86 : a.eval (.tmp 86) = .pointer (some ⟨r, 0, none⟩) := by simpa [Act.eval] using h86
            refine late_value (v := .pointer (some ⟨r, 0, none⟩)) (run_fieldOp e86 rfl (by go_simp)) ⟨_, rfl, ?_⟩
            exact ⟨fun _ => hW, fun h => absurd h (by omega), fun _ _ => ⟨t, ht, by simpa [Act.put, Array.getD_eq_getD_getElem?, hsz] using ho⟩, fun _ _ => by simpa [Act.put, Array.getD_eq_getD_getElem?, hsz] using h86, fun _ => by simp [Act.put, Array.getD_eq_getD_getElem?, hsz], fun h => absurd h (by omega)⟩
          | 4, hj =>
            obtain rfl : 22 = j := Option.some.inj hj
            obtain rfl := Option.some.inj ho
            clear hj ho
            have hP := h1 (by omega)
            clear h0 h1 hfr hou
            have hW := hP.1 (by omega)
            obtain ⟨t, ht, ho⟩ := hP.2.2.1 (by omega) (by omega)
            have h87 := hP.2.2.2.2.1 rfl
            have e87 : a.eval (.tmp 87) = .pointer (some ⟨r, 0, none⟩) := by simpa [Act.eval] using h87
            obtain ⟨A', cap', hv, -⟩ := row_form ho
            have hv' : a.eval (.tmp 85) = .slice A' (n + 1) cap' := by simpa [Act.eval] using hv
            have hr1 := (Kept.of hW []).blk HBX1.out (by simp)
            refine late_store (x := .tmp 87) (y := .tmp 85) (w' := W.setCell ⟨r, 0, none⟩ (.slice A' (n + 1) cap')) rfl (by rw [e87, hv']; exact run_storeEs W ⟨r, 0, none⟩ _ _ _ _ (hr1.cell 0) (hr1.frozen 0)) ⟨undef, rfl, fun h => absurd h (by omega), fun h => absurd h (by omega), fun _ h => absurd h (by omega), fun _ h => absurd h (by omega), fun h => absurd h (by omega), fun _ => ⟨t, _, W, hW, ht, by rw [← hv]; exact ho, rfl⟩⟩
          | q + 5, hj => cases hj
        case fin =>
          intro a w3 ha hP
          obtain ⟨t, v, w1, hB, ht, ho, rfl⟩ := hP.2.2.2.2.2 rfl
          obtain ⟨hts, htf⟩ := ht.svs HSN9.out
          have hins := ins_at (e := y) (m := M) (k := k) (by rw [HN.out]; exact hk) HLT.out HEX.out
          obtain ⟨hI3, hK3⟩ := ref_made (m' := En.put m y) HI1.out HS1.out hB ho (Nat.le_refl _) (by rw [HPM.out, hins, List.map_append, List.map_append, ← HT.out, List.map_take, List.map_drop]; simp [ht.e]) (by rw [HPM.out, len_ins, HN.out]) (by omega) (fun u hu => by
            rcases List.mem_append.1 hu with hu | hu
            · rcases List.mem_append.1 hu with hu | hu
              · exact (HOK1.out.below hB) u (List.mem_of_mem_take hu)
              · rw [List.mem_singleton.1 hu, ht.e]
                refine ⟨hts, .inr fun ad e hm => ?_⟩
                have h5 := htf ad e
                have h6 := HI1.out.lt
                rcases List.mem_cons.1 hm with h | h
                · omega
                · have := HS1.out _ h; omega
            · exact (HOK1.out.below hB) u (List.mem_of_mem_drop hu))
          have HI3 := Lib.hid hI3
          have HK3 := Lib.hid ((((Kept.of HB1.out [r]).trans HK2.out).trans (Kept.of HBC.out [r])).trans hK3)
          clear hI3 hK3 hP ho hB hts htf ht hins
          simp only [List.foldl_cons, List.foldl_nil] at ha
          generalize a.tmps.getD 66 undef = v66 at ha
          generalize a.tmps.getD 67 undef = v67 at ha
          generalize a.tmps.getD 68 undef = v68 at ha
          generalize a.tmps.getD 69 undef = v69 at ha
          generalize a.tmps.getD 70 undef = v70 at ha
          generalize a.tmps.getD 71 undef = v71 at ha
          generalize a.tmps.getD 72 undef = v72 at ha
          generalize a.tmps.getD 73 undef = v73 at ha
          generalize a.tmps.getD 74 undef = v74 at ha
          generalize a.tmps.getD 75 undef = v75 at ha
          generalize a.tmps.getD 76 undef = v76 at ha
          generalize a.tmps.getD 77 undef = v77 at ha
          generalize a.tmps.getD 78 undef = v78 at ha
          generalize a.tmps.getD 79 undef = v79 at ha
          generalize a.tmps.getD 80 undef = v80 at ha
          generalize a.tmps.getD 81 undef = v81 at ha
          generalize a.tmps.getD 82 undef = v82 at ha
          generalize a.tmps.getD 83 undef = v83 at ha
          generalize a.tmps.getD 84 undef = v84 at ha
          generalize a.tmps.getD 85 undef = v85 at ha
          generalize a.tmps.getD 86 undef = v86 at ha
          generalize a.tmps.getD 87 undef = v87 at ha
          simp only [Act.put, List.setIfInBounds_toArray, List.set_cons_succ, List.set_cons_zero] at ha
          subst ha
          go_wp2
          go_ret
          exact ⟨rfl, HI3.out, HK3.out⟩
end
end Go.Proofs.Ytcoedohfggeaiaa

