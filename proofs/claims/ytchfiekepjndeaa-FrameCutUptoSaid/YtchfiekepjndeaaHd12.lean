/-
  Layer 12: the laws' live question (turntablelaw12.head) answers true, and turns nothing that was there. Nothing is assumed.
-/
import Derived.Test.YtchfiekepjndeaaSam12
import Derived.Lib.SlBytesConst

namespace Go.Proofs.Ytchfiekepjndeaa
open Go.RowKit
set_option maxRecDepth 100000

/-- append onto memory of one's own: what was read of it is read of it still -/
theorem app_old {P : Program} (w : World) (base : Nat) (t ty e : TypeId) (i : TypeInfo) (z : Value) (ht : P.underlying t = some (.slice e)) (hi : P.info? e = some i) (hz : i.zero = some z) (hsize : i.size = 1) (hby : i.bytes = 1) (hzs : z.cells.size = 1)
    (A : Option Addr) (n cap : Nat) (xs : List Value) (hown : w.ownsRow base e 1 (.slice A n cap) n xs) (ad : Addr) (m c : Nat) (news : List Value) (hl : news.length = m) (hA : Lies w (some ad) news) (h1 : ∀ u ∈ news, u.oneCell' = true)
    (hb : n + m ≤ 70368744177664) (hbase : base ≤ w.heap.size) :
    ∃ v' w', (Builtin.append_ #[t, t] ty #[.slice A n cap, .slice (some ad) m c]).run P w = .ok v' w' ∧ w'.ownsRow base e 1 v' (n + m) (xs ++ news) ∧ w.grownBy w' (Value.slice A n cap).ownBlock ∧ Lies w' A xs := by
  obtain ⟨v', w', hr, h2, h3, h5⟩ := app_any (P := P) w base t ty e i z ht hi hz hsize hby hzs (.slice A n cap) n xs hown (some ad) m c news hl hA h1 hb hbase
  refine ⟨v', w', hr, h2, h3, ?_⟩
  have hc : ∀ j u, news[j]? = some u → w.cell? (ad.add j) = some u := by
    rcases hA with h | ⟨ad', h, _, hc⟩
    · subst h; intro j u hu; simp at hu
    · injection h with h; subst h; exact hc
  rcases hown.2 with ⟨_, h0⟩ | ⟨g, cap', cur, ev, hbg, hg, hnc, hcm, hcs, htake⟩
  · have hl := hown.1
    subst h0
    exact .inl (List.eq_nil_of_length_eq_zero (by simpa using hl))
  · injection ev with e1 e2 e3
    subst e1 e3
    by_cases hroom : n + m ≤ cap
    · have hr2 := run_append_room (P := P) w t ty e i ht hi g n cap cur hg ad m c news (by rw [hsize, hl]; omega) hc h1 hroom (by rw [hsize, hl, hcs]; omega)
      rw [hr] at hr2
      injection hr2 with q1 q2
      subst q1
      have := (Lies.own h2).take n
      rwa [List.take_left' (by have := hown.1; omega)] at this
    · have hr2 := run_append_grow (P := P) w t ty e i z ht hi hz ⟨g, 0, none⟩ n cap xs (by rw [hsize]; exact hown.1) (hown.cells (g := g) rfl) ad m c news (by rw [hsize, hl]; omega) hc (by omega) (by omega) (growslice_fits (by omega) (by rw [hby]; omega))
      rw [hr] at hr2
      injection hr2 with q1 q2
      rw [q2]
      exact (Lies.own hown).keep (by simp) fun p hp => World.cell?_alloc_lt w.drew _ p hp
theorem wpList_appOld {P : Program} {w : World} {ops : Array Oper} {rest : List Oper} {o : Oper} {a : Act} {Q : Exit → Act → World → Prop} (hgd : o.guard = none) (s x : Operand) (t : TypeId)
    (ho : o.op = .call { callee := .builtin .append, args := #[s, x], argTypes := #[t, t] })
    (base : Nat) (e : TypeId) (i : TypeInfo) (z : Value) (ht : P.underlying t = some (.slice e)) (hi : P.info? e = some i) (hz : i.zero = some z) (hsize : i.size = 1) (hby : i.bytes = 1) (hzs : z.cells.size = 1)
    (A : Option Addr) (n cap : Nat) (xs : List Value) (hs : a.eval s = .slice A n cap) (hown : w.ownsRow base e 1 (.slice A n cap) n xs) (ad : Addr) (m c : Nat) (news : List Value) (hx : a.eval x = .slice (some ad) m c) (hl : news.length = m) (hA : Lies w (some ad) news) (h1 : ∀ u ∈ news, u.oneCell' = true)
    (hb : n + m ≤ 70368744177664) (hbase : base ≤ w.heap.size)
    (h : ∀ v' w', w'.ownsRow base e 1 v' (n + m) (xs ++ news) → w.grownBy w' (Value.slice A n cap).ownBlock → Lies w' A xs → wpList P ops Q rest (a.put o.dst v') w') : wpList P ops Q (o :: rest) a w := by
  refine wpList_plain hgd fun K hK => ?_
  obtain ⟨v', w', hr, h2, h3, h4⟩ := app_old (P := P) w base t o.type e i z ht hi hz hsize hby hzs A n cap xs hown ad m c news hl hA h1 hb hbase
  unfold Oper.wp execOp
  simp only [ho, resolve, invoke, builtin, Sem.run_bind, Sem.run_pure, Result.andThen_ok, List.map_toArray, List.map_cons, List.map_nil, hs, hx, hr]
  exact hK _ _ (h v' w' h2 h3 h4)

theorem lies_mark (w : World) (bs : List UInt8) (cs : Array Value) (m : Nat × Nat) (h : cells bs = cs.toList) : Lies (w.alloc (.cells cs 5 m)) (some ⟨w.heap.size, 0, none⟩) (cells bs) := by
  rw [h]
  exact .inr ⟨_, rfl, by simp, World.news_of_block (heap_alloc_new w _)⟩

set_option maxHeartbeats 4000000 in
theorem head12_any (w : World) : Calls Try.prog 8 #[] w fun e w' => e = .returned (.bool true) ∧ Below w.heap.size w w' := by
  obtain ⟨i0, hi, hz0, hz1, hz2⟩ := info_parts infoU8
  have cs := fun (W : World) (C : Array Value) (n c : Nat) => Lib.run_convert_bytes_const (P := Try.prog) W 22 5 C n c Try.underlying22 Try.underlying5
  go_enter Try.func8, Try.ntmps8
  go_wp2_with fail
  have b0 : Below w.heap.size w (w.alloc (.cells #[.int .u8 97, .int .u8 98] 5 (2, 3))) := (Below.refl _ _).alloc (Nat.le_refl _) _
  refine (fput_any (some ⟨w.heap.size, 0, none⟩) 2 2 [97, 98] (w.alloc (.cells #[.int .u8 97, .int .u8 98] 5 (2, 3))) rfl (lies_mark _ _ _ _ rfl)).mono ?_
  rintro e w1 hM1
  obtain ⟨v1, rfl, ho1, b1⟩ := hM1.up b0
  rw [show Fra.put [97, 98] = [2, 97, 98] from by decide] at ho1
  obtain ⟨A1, c1, rfl, hl1, hm1, -, -⟩ := own_form ho1
  have HO1 := Lib.hid ho1
  clear ho1 hM1 b0
  have b1' : Below w.heap.size w (w1.alloc (.cells #[.int .u8 99] 5 (1, 2))) := b1.alloc b1.size _
  go_wp2_with fail
  refine (fput_any (some ⟨w1.heap.size, 0, none⟩) 1 1 [99] (w1.alloc (.cells #[.int .u8 99] 5 (1, 2))) rfl (lies_mark _ _ _ _ rfl)).mono ?_
  rintro e w2 ⟨v2, rfl, ho2, d2⟩
  have b2 := b1'.trans (d2.mono b1'.size)
  rw [show Fra.put [99] = [1, 99] from by decide] at ho2
  obtain ⟨A2, c2, rfl, hl2, hm2, -, hL2⟩ := own_form ho2
  have HO12 := Lib.hid (own_keep (own_keep HO1.out ((Below.refl _ _).alloc (Nat.le_refl _) (.cells #[.int .u8 99] 5 (1, 2)))) d2)
  have HL2 := Lib.hid hL2
  have HB2 := Lib.hid b2
  clear ho2 d2 hL2 b1' b1 b2 HO1
  rw [show ([1, 99] : List UInt8).length = 2 from rfl]
  go_wp2_with (at_builtin; refine wpList_app rfl _ _ 22 rfl w.heap.size 5 i0 (.int .u8 0) Try.underlying22 hi hz0 hz1 hz2 rfl (.slice A1 3 c1) 3 (cells [2, 97, 98]) rfl ?a1 A2 2 c2 (cells [1, 99]) rfl rfl HL2.out (cells_one _) (by omega) HB2.out.size ?a2)
  case a1 => exact own_mono HO12.out (by first | omega | simp)
  case a2 =>
  intro v3 w3 ho3 hg3 _
  have b3 : Below w.heap.size w w3 := HB2.out.grown hg3 HB2.out.size (fun g hg => by have := (HO12.out.lt g hg).1; (try simp at this); omega)
  have ho3' : w3.ownsRow w.heap.size 5 1 v3 5 (cells [2, 97, 98, 1, 99]) := ho3
  obtain ⟨A3, c3, rfl, hl3, hm3, -, hL3⟩ := own_form ho3'
  have HO3 := Lib.hid ho3'
  have HB3 := Lib.hid b3
  clear ho3 ho3' hg3 hL3 b3
  go_wp2_with (at_builtin; refine wpList_appOld rfl _ _ 22 rfl w.heap.size 5 i0 (.int .u8 0) Try.underlying22 hi hz0 hz1 hz2 rfl A3 5 c3 (cells [2, 97, 98, 1, 99]) rfl ?b1 ⟨w3.heap.size, 0, none⟩ 2 2 [.int .u8 5, .int .u8 120] rfl rfl ?b2 ?b3 (by omega) ?b4 ?b5)
  case b1 => exact HO3.out.alloc _
  case b2 => exact Lies.new w3 #[.int .u8 5, .int .u8 120] 5
  case b3 => simp [Value.oneCell']
  case b4 => have := HB3.out.size; simp; omega
  case b5 =>
  intro v4 w4 ho4 hg4 hold
  have b4 : Below w.heap.size w w4 := (HB3.out.alloc HB3.out.size _).grown hg4 (by have := HB3.out.size; simp; omega) (fun g hg => (HO3.out.lt g hg).1)
  have ho4' : w4.ownsRow w.heap.size 5 1 v4 7 (cells [2, 97, 98, 1, 99, 5, 120]) := ho4
  obtain ⟨A4, c4, rfl, hl4, hm4, -, hL4⟩ := own_form ho4'
  have HLD := Lib.hid hold
  have HB4 := Lib.hid b4
  have HL4 := Lib.hid hL4
  clear ho4 ho4' hg4 hold hL4 b4
  have HA4 := Lib.hid (fall_any A4 7 c4 [2, 97, 98, 1, 99, 5, 120] w4 rfl (by omega) hl4 hm4 HL4.out)
  rw [show Fra.all [2, 97, 98, 1, 99, 5, 120] = [⟨0, [97, 98]⟩, ⟨3, [99]⟩] from by decide, show Fra.tot [⟨0, [97, 98]⟩, ⟨3, [99]⟩] = 5 from by decide] at HA4
  go_wp2_with fail
  refine HA4.out.mono ?_
  rintro e w5 ⟨v5, rfl, L5, hL5, hR5, d5⟩
  obtain ⟨A5, c5, rfl, hl5, hm5, hRd5⟩ := hR5.read
  have hn5 : L5.length = 2 := by have := congrArg List.length hL5; simpa using this
  rw [hn5] at hl5 ⊢
  have HB5 := Lib.hid (HB4.out.trans (d5.mono HB4.out.size))
  have HR5 := Lib.hid hRd5
  have HLD5 := Lib.hid (HLD.out.below d5)
  have HL5 := Lib.hid hL5
  have HN5 := Lib.hid hn5
  clear hL5 hR5 d5 hRd5 hn5 HA4 HLD
  have HA5 := Lib.hid (fall_any (some ⟨w5.heap.size, 0, none⟩) 3 3 [0, 1, 2] (w5.alloc (.cells #[.int .u8 0, .int .u8 1, .int .u8 2] 5)) rfl (by omega) (by omega) (by unfold maxLen; omega) (Lies.new w5 #[.int .u8 0, .int .u8 1, .int .u8 2] 5))
  rw [show Fra.all [0, 1, 2] = [] from by decide, show Fra.tot [] = 0 from rfl] at HA5
  go_wp2_with fail
  refine HA5.out.mono ?_
  rintro e w6 ⟨v6, rfl, L6, hL6, hR6, d6⟩
  obtain ⟨A6, c6, rfl, -, -, -⟩ := hR6.read
  obtain rfl : L6 = [] := by simpa using hL6
  have d56 : Below w5.heap.size w5 w6 := ((Below.refl _ _).alloc (Nat.le_refl _) _).trans (d6.mono (by simp))
  have HB6 := Lib.hid (HB5.out.trans (d56.mono HB5.out.size))
  have HR6 := Lib.hid (HR5.out.below d56)
  have hcv := conv_str (P := Try.prog) (c := c3) (HLD5.out.below d56) 22 5 Try.underlying22 Try.underlying5 9 Try.underlying9
  rw [show str [2, 97, 98, 1, 99] = ⟨#[2, 97, 98, 1, 99]⟩ from rfl, show ([2, 97, 98, 1, 99] : List UInt8).length = 5 from rfl] at hcv
  clear hL6 hR6 d6 d56 HA5 HLD5 HR5
  rw [show (↑([] : List PV).length : Nat) = 0 from rfl]
  have cs6 := cs (w6.alloc (.cells #[.int .u8 97, .int .u8 98] 5 (2, 3))) #[.int .u8 99] 1 1
  simp only [World.size_alloc, List.size_toArray, List.length_cons, List.length_nil, Nat.reduceAdd, Nat.zero_add] at cs6
  obtain ⟨wa, hwa⟩ : ∃ wa, w6.alloc (.cells #[.int .u8 97, .int .u8 98] 5 (2, 3)) = wa := ⟨_, rfl⟩
  obtain ⟨wb, hwb⟩ : ∃ wb, wa.alloc (.cells #[.int .u8 99] 5 (1, 2)) = wb := ⟨_, rfl⟩
  have hsa : wa.heap.size = w6.heap.size + 1 := by rw [← hwa]; simp
  have hsb : wb.heap.size = w6.heap.size + 2 := by rw [← hwb]; simp; omega
  have dA : Below w6.heap.size w6 wa := by rw [← hwa]; exact (Below.refl _ _).alloc (Nat.le_refl _) _
  have dB : Below wa.heap.size wa wb := by rw [← hwb]; exact (Below.refl _ _).alloc (Nat.le_refl _) _
  have lA : Lies wa (some ⟨w6.heap.size, 0, none⟩) (cells [97, 98]) := by rw [← hwa]; exact lies_mark _ _ _ _ rfl
  have lB : Lies wb (some ⟨w6.heap.size + 1, 0, none⟩) (cells [99]) := by rw [← hsa, ← hwb]; exact lies_mark _ _ _ _ rfl
  have dC : Below wb.heap.size wb (wb.alloc (.cells #[.int .i64 0, .int .i64 3, .slice (some ⟨w6.heap.size, 0, none⟩) 2 2, .int .i64 3, .int .i64 2, .slice (some ⟨w6.heap.size + 1, 0, none⟩) 1 1] 35)) := (Below.refl _ _).alloc (Nat.le_refl _) _
  have dAB := dA.trans (dB.mono dA.size)
  have dABC := dAB.trans (dC.mono dAB.size)
  have HS := Lib.hid (same12_yes A5 (some ⟨wb.heap.size, 0, none⟩) 2 c5 2 L5 [(⟨0, [97, 98]⟩, .slice (some ⟨w6.heap.size, 0, none⟩) 2 2), (⟨3, [99]⟩, .slice (some ⟨w6.heap.size + 1, 0, none⟩) 1 1)] (wb.alloc (.cells #[.int .i64 0, .int .i64 3, .slice (some ⟨w6.heap.size, 0, none⟩) 2 2, .int .i64 3, .int .i64 2, .slice (some ⟨w6.heap.size + 1, 0, none⟩) 1 1] 35)) HN5.out (by omega) (by rw [HL5.out]; rfl) (HR6.out.below dABC)
    ⟨Lies.new wb #[.int .i64 0, .int .i64 3, .slice (some ⟨w6.heap.size, 0, none⟩) 2 2, .int .i64 3, .int .i64 2, .slice (some ⟨w6.heap.size + 1, 0, none⟩) 1 1] 35, fun x hx => by
      simp only [List.mem_cons, List.not_mem_nil, or_false] at hx
      rcases hx with rfl | rfl
      · exact ⟨_, _, rfl, (lA.below dB).below dC⟩
      · exact ⟨_, _, rfl, lB.below dC⟩⟩)
  have HBD := Lib.hid (HB6.out.trans (dABC.mono HB6.out.size))
  rw [hsb] at HS
  have HWA := Lib.hid hwa
  have HWB := Lib.hid hwb
  clear hsa dA dB lA lB dC dAB dABC hwa hwb
  go_wp2_with fail
  rw [HWA.out, HWB.out]
  refine HS.out.mono ?_
  rintro e w7 ⟨rfl, d7⟩
  have HB7 := Lib.hid (HBD.out.trans (d7.mono HBD.out.size))
  clear d7 HS
  go_wp2_with fail
  refine (fsize_any _ _).mono ?_
  rintro e w8 ⟨rfl, rfl⟩
  rw [show Fra.size 200 = 202 from by decide]
  go_wp2_with fail
  refine (fsize_any _ _).mono ?_
  rintro e w8 ⟨rfl, rfl⟩
  rw [show Fra.size 0 = 0 from by decide]
  go_wp2_with fail
  refine (fsize_any _ _).mono ?_
  rintro e w8 ⟨rfl, rfl⟩
  rw [show Fra.size 3601 = 0 from by decide]
  go_wp2_with fail
  refine (fput_any none 0 0 [] _ rfl Lies.nil).mono ?_
  rintro e w8 ⟨v8, rfl, ho8, d8⟩
  rw [show Fra.put [] = [] from by decide] at ho8
  obtain ⟨A8, c8, rfl, -, -, -, -⟩ := own_form ho8
  have HB8 := Lib.hid (HB7.out.trans (d8.mono HB7.out.size))
  clear ho8 d8
  rw [show (↑([] : List UInt8).length : Nat) = 0 from rfl]
  go_wp2
  go_ret
  exact ⟨rfl, HB8.out⟩
end Go.Proofs.Ytchfiekepjndeaa
