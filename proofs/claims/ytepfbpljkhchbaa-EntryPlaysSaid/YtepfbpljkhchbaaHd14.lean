/-
  Layer 14: turntablelaw14.head, the live question: it returns true. Nothing is assumed.
-/
import Derived.Test.YtepfbpljkhchbaaEnJ
import Derived.Test.YtepfbpljkhchbaaEnE
import Derived.Test.YtepfbpljkhchbaaEnF
import Derived.Test.YtepfbpljkhchbaaEnK

namespace Go.Proofs.Ytepfbpljkhchbaa
open Go.RowKit Go.Maps En
set_option maxRecDepth 100000

theorem mine_del {x b : Nat} {p : Int → Nat} {m : List E} (i : Int) : ∀ k ∈ mine x b p (En.del m i), k ∈ mine x b p m := fun k hk => by
  rcases mem_mine.1 hk with h6 | h6 | ⟨e, he, e6⟩
  · exact mem_mine.2 (.inl h6)
  · exact mem_mine.2 (.inr (.inl h6))
  · exact mem_mine.2 (.inr (.inr ⟨e, (mem_del.1 he).1, e6⟩))
def hd5 : E := one14 5 2 7 40
def hd3 : E := one14 3 9 7 10
def hd4 : E := one14 4 2 8 0
def hdA : List E := En.put [] hd5
def hdB : List E := En.put hdA hd3
def hdC : List E := En.put hdB hd4
def hdD : List E := En.upd hdC 5 (pinU true)
def hdE : List E := En.upd hdD 5 (classU 3)
def hdF : List E := En.upd hdE 4 (moveU 7 90 11)
def hdG : List E := En.del hdF 3
def hdH : List E := En.del hdG 3
theorem i64_any {i : Int} (h1 : -1000000 ≤ i) (h2 : i ≤ 1000000) : I64 i := by unfold I64; omega

/-- numbers, and items, that lie in memory -/
def Fact.num14 (ids : List Int) : Fact := ⟨fun v w => ∃ A c, v = .slice A ids.length c ∧ ids.length ≤ c ∧ c ≤ maxLen ∧ Lies w A (nums ids), fun _ _ _ ⟨A, c, e, h1, h2, h⟩ hb => ⟨A, c, e, h1, h2, h.below hb⟩⟩
theorem soft_two14 {w : World} {ρ : Operand → Value} {o : Oper} {a b : Int} (hc : ∀ v, ρ (.const v) = v) (ho : o.op = .buildSlice 48 2 #[(0, .const (.int .i64 a)), (1, .const (.int .i64 b))]) : softUpon Try.prog w (Fact.num14 [a, b]) ((execOp ρ o).run Try.prog w) := by
  have e : (execOp ρ o).run Try.prog w = .ok (.value (.slice (some ⟨w.heap.size, 0, none⟩) 2 2)) (w.alloc (.cells #[.int .i64 a, .int .i64 b] 2)) := by
    simp only [execOp, ho]
    go_simp
  rw [e]
  exact ⟨⟨_, _, rfl, Nat.le_refl _, by unfold maxLen; simp, lies_new5 w _ _ _ rfl⟩, (Below.refl _ _).alloc (Nat.le_refl _) _⟩

set_option maxHeartbeats 8000000 in
theorem head14_any (w : World) : Calls Try.prog 9 #[] w fun e w' => e = .returned (.bool true) ∧ Below w.heap.size w w' := by
  go_enter Try.func9, Try.ntmps9
  go_wp2_with fail
  refine (new14_any [] w (by simp)).mono ?_
  rintro e w1 ⟨x, b, rfl, hI1, hx, hbx, d1⟩
  have HI1 := Lib.hid hI1
  have HB1 := Lib.hid d1
  have HX := Lib.hid (And.intro hx hbx)
  have HM1 := Lib.hid (show ∀ k ∈ mine x b (fun _ => 0) [], w.heap.size ≤ k from fun k hk => by
    rcases mem_mine.1 hk with rfl | rfl | ⟨e, he, -⟩
    · exact hx
    · exact hbx
    · cases he)
  clear hI1 d1 hx hbx
  go_wp2_with fail
  refine (one14_any 5 2 7 40 w1).mono ?_
  rintro e w2 ⟨g2, rfl, -, hS, d2⟩
  have HP := Lib.hid (put14_any (HI1.out.below d2) (by simp) (by decide) hd5 (i64_any (by decide) (by decide)) _ 1 1 rfl hS)
  have HB2 := Lib.hid (HB1.out.trans (d2.mono HB1.out.size))
  clear hS d2
  go_wp2_with fail
  refine HP.out.mono ?_
  rintro e w3 ⟨he, p3, hI3, hk3, hm3⟩
  obtain rfl : e = .returned (.bool false) := he
  have HI3 := Lib.hid (show IsIdx [] w3 x b p3 hdA from hI3)
  have HB3 := Lib.hid (Kept.below HB2.out hk3 (by simp; exact HX.out.2))
  have HM3 := Lib.hid (show ∀ k ∈ mine x b p3 hdA, w.heap.size ≤ k from fun k hk => (hm3 k hk).elim (HM1.out k) (fun h => Nat.le_trans HB2.out.size h))
  clear hI3 hk3 hm3 HP HI1 HB1 HB2 HM1
  go_wp2_with fail
  refine (one14_any 3 9 7 10 w3).mono ?_
  rintro e w4 ⟨g4, rfl, -, hS, d2⟩
  have HP := Lib.hid (put14_any (HI3.out.below d2) (by simp) (by decide) hd3 (i64_any (by decide) (by decide)) _ 1 1 rfl hS)
  have HB4 := Lib.hid (HB3.out.trans (d2.mono HB3.out.size))
  clear hS d2
  go_wp2_with fail
  refine HP.out.mono ?_
  rintro e w5 ⟨he, p5, hI3, hk3, hm3⟩
  obtain rfl : e = .returned (.bool false) := he
  have HI5 := Lib.hid (show IsIdx [] w5 x b p5 hdB from hI3)
  have HB5 := Lib.hid (Kept.below HB4.out hk3 (by simp; exact HX.out.2))
  have HM5 := Lib.hid (show ∀ k ∈ mine x b p5 hdB, w.heap.size ≤ k from fun k hk => (hm3 k hk).elim (HM3.out k) (fun h => Nat.le_trans HB4.out.size h))
  clear hI3 hk3 hm3 HP HI3 HB3 HB4 HM3
  go_wp2_with fail
  refine (one14_any 4 2 8 0 w5).mono ?_
  rintro e w6 ⟨g6, rfl, -, hS, d2⟩
  have HP := Lib.hid (put14_any (HI5.out.below d2) (by simp) (by decide) hd4 (i64_any (by decide) (by decide)) _ 1 1 rfl hS)
  have HB6 := Lib.hid (HB5.out.trans (d2.mono HB5.out.size))
  clear hS d2
  go_wp2_with fail
  refine HP.out.mono ?_
  rintro e w7 ⟨he, p7, hI3, hk3, hm3⟩
  obtain rfl : e = .returned (.bool false) := he
  have HI7 := Lib.hid (show IsIdx [] w7 x b p7 hdC from hI3)
  have HB7 := Lib.hid (Kept.below HB6.out hk3 (by simp; exact HX.out.2))
  have HM7 := Lib.hid (show ∀ k ∈ mine x b p7 hdC, w.heap.size ≤ k from fun k hk => (hm3 k hk).elim (HM5.out k) (fun h => Nat.le_trans HB6.out.size h))
  clear hI3 hk3 hm3 HP HI5 HB5 HB6 HM5
  go_wp2_with fail
  refine (items14_any HI7.out).mono ?_
  rintro e w8 ⟨v, rfl, ho, d8⟩
  obtain ⟨gl, cap, rfl, hlc, hcm, hL, hfr⟩ : ∃ gl cap, v = .slice (some ⟨gl, 0, none⟩) 3 cap ∧ 3 ≤ cap ∧ cap ≤ maxLen ∧ Lies w8 (some ⟨gl, 0, none⟩) (flatI [itemE hd4, itemE hd5, itemE hd3]) ∧ w7.heap.size ≤ gl := by
    rcases ho.2 with ⟨-, h0⟩ | ⟨g, cap, cur, rfl, hb, hg, h1, h2, h3⟩
    · cases h0
    · exact ⟨g, cap, rfl, h1, h2, .inr ⟨_, rfl, (ho.lt g rfl).2, ho.cells (g := g) rfl⟩, hb⟩
  have HI8 := Lib.hid (HI7.out.below d8)
  have HB8 := Lib.hid (HB7.out.trans (d8.mono HB7.out.size))
  have HOF := Lib.hid (show Off (mine x b p7 hdC) (some ⟨gl, 0, none⟩) (flatI [itemE hd4, itemE hd5, itemE hd3]) from .inr fun ad e hm => by have h2 := HI7.out.lt _ hm; injection e with e; rw [← e] at h2; simp only at h2; omega)
  have HL8 := Lib.hid hL
  have HLC := Lib.hid (And.intro hlc hcm)
  clear ho d8 hlc hcm hL hfr HI7 HB7
  have HU := Lib.hid (pin14_any HI8.out (i := 5) (i64_any (by decide) (by decide)) true)
  go_wp2_with fail
  refine HU.out.mono ?_
  rintro e w9 ⟨he, hI, hk⟩
  obtain rfl : e = .returned (.bool true) := he
  have HI9 := Lib.hid (show IsIdx [] w9 x b p7 hdD from hI)
  have HB9 := Lib.hid (Kept.below HB8.out hk HM7.out)
  have HL9 := Lib.hid (HL8.out.kept HOF.out hk)
  have HM9 := Lib.hid (show ∀ k ∈ mine x b p7 hdD, w.heap.size ≤ k from fun k hk => HM7.out k (mine_upd 5 (pinU true) (fun _ => rfl) k hk))
  have HO9 := Lib.hid (HOF.out.mono (S' := mine x b p7 hdD) (mine_upd 5 (pinU true) (fun _ => rfl)))
  clear hI hk HU HI8 HB8 HL8 HM7
  have HU := Lib.hid (class14_any HI9.out (i := 5) (i64_any (by decide) (by decide)) 3)
  go_wp2_with fail
  refine HU.out.mono ?_
  rintro e w10 ⟨he, hI, hk⟩
  obtain rfl : e = .returned (.bool true) := he
  have HI10 := Lib.hid (show IsIdx [] w10 x b p7 hdE from hI)
  have HB10 := Lib.hid (Kept.below HB9.out hk HM9.out)
  have HL10 := Lib.hid (HL9.out.kept HO9.out hk)
  have HM10 := Lib.hid (show ∀ k ∈ mine x b p7 hdE, w.heap.size ≤ k from fun k hk => HM9.out k (mine_upd 5 (classU 3) (fun _ => rfl) k hk))
  have HO10 := Lib.hid (HO9.out.mono (S' := mine x b p7 hdE) (mine_upd 5 (classU 3) (fun _ => rfl)))
  clear hI hk HU HI9 HB9 HL9 HM9
  have HU := Lib.hid (move14_any HI10.out (i := 4) (i64_any (by decide) (by decide)) 7 90 11)
  go_wp2_with fail
  refine HU.out.mono ?_
  rintro e w11 ⟨he, hI, hk⟩
  obtain rfl : e = .returned (.bool true) := he
  have HI11 := Lib.hid (show IsIdx [] w11 x b p7 hdF from hI)
  have HB11 := Lib.hid (Kept.below HB10.out hk HM10.out)
  have HL11 := Lib.hid (HL10.out.kept HO10.out hk)
  have HM11 := Lib.hid (show ∀ k ∈ mine x b p7 hdF, w.heap.size ≤ k from fun k hk => HM10.out k (mine_upd 4 (moveU 7 90 11) (fun _ => rfl) k hk))
  have HO11 := Lib.hid (HO10.out.mono (S' := mine x b p7 hdF) (mine_upd 4 (moveU 7 90 11) (fun _ => rfl)))
  clear hI hk HU HI10 HB10 HL10 HM10
  have HU := Lib.hid (del14_any HI11.out (i := 3) (i64_any (by decide) (by decide)))
  go_wp2_with fail
  refine HU.out.mono ?_
  rintro e w12 ⟨he, hI, hk⟩
  obtain rfl : e = .returned (.bool true) := he
  have HI12 := Lib.hid (show IsIdx [] w12 x b p7 hdG from hI)
  have HB12 := Lib.hid (Kept.below HB11.out hk (by simp; exact HX.out.2))
  have HL12 := Lib.hid (HL11.out.kept (HO11.out.mono (S' := [b]) (fun k hk => by rw [List.mem_singleton.1 hk]; exact mem_mine.2 (.inr (.inl rfl)))) hk)
  have HO12 := Lib.hid (HO11.out.mono (S' := mine x b p7 hdG) (mine_del 3))
  clear hI hk HU HI11 HB11 HL11 HO11
  have HU := Lib.hid (del14_any HI12.out (i := 3) (i64_any (by decide) (by decide)))
  go_wp2_with fail
  refine HU.out.mono ?_
  rintro e w13 ⟨he, hI, hk⟩
  obtain rfl : e = .returned (.bool false) := he
  have HI13 := Lib.hid (show IsIdx [] w13 x b p7 hdH from hI)
  have HB13 := Lib.hid (Kept.below HB12.out hk (by simp; exact HX.out.2))
  have HL13 := Lib.hid (HL12.out.kept (HO12.out.mono (S' := [b]) (fun k hk => by rw [List.mem_singleton.1 hk]; exact mem_mine.2 (.inr (.inl rfl)))) hk)
  have HO13 := Lib.hid (HO12.out.mono (S' := mine x b p7 hdH) (mine_del 3))
  clear hI hk HU HI12 HB12 HL12 HO12
  have HG := Lib.hid (get14_any HI13.out (i := 5) (i64_any (by decide) (by decide)))
  go_wp2_with fail
  refine HG.out.mono ?_
  rintro e w14 ⟨v, he, ho, d14⟩
  obtain rfl : e = .returned (.tuple #[.agg (enA ⟨5, 3, 2, 20, true, 5, 0, 0, 1, [[119, 101, 98]], 7, 40, 20⟩ v), .bool true]) := he
  obtain ⟨C, c2, rfl, -, -⟩ := row_svs (sv := [[119, 101, 98]]) (n := 1) ho rfl (by decide)
  have HI14 := Lib.hid (HI13.out.below d14)
  have HB14 := Lib.hid (HB13.out.trans (d14.mono HB13.out.size))
  have HL14 := Lib.hid (HL13.out.below d14)
  clear ho d14 HG HI13 HB13 HL13
  have hcl : ∀ j u, (flatI [itemE hd4, itemE hd5, itemE hd3])[j]? = some u → w14.cell? ⟨gl, j, none⟩ = some u := fun j u hu => by
    rcases HL14.out with h | ⟨ad, e, _, hc⟩
    · cases h
    · injection e with e
      subst e
      have := hc j u hu
      rwa [show (⟨gl, 0, none⟩ : Addr).add j = ⟨gl, j, none⟩ by unfold Addr.add; split <;> simp_all] at this
  have hgl : gl < w14.heap.size := by
    rcases HL14.out with h | ⟨ad, e, hb, _⟩
    · cases h
    · injection e with e; subst e; exact hb
  have i0 : w14.cell? ⟨gl, 0, none⟩ = some (.int .i64 4) := hcl 0 _ rfl
  have i5 : w14.cell? ⟨gl, 5, none⟩ = some (.int .i64 5) := hcl 5 _ rfl
  have i10 : w14.cell? ⟨gl, 10, none⟩ = some (.int .i64 3) := hcl 10 _ rfl
  have hcap := HLC.out
  unfold maxLen at hcap
  obtain ⟨hcap1, hcap2⟩ := hcap
  have HYB := Lib.hid (BoxE.new w14 ⟨5, 3, 2, 20, true, 5, 0, 0, 1, [[119, 101, 98]], 7, 40, 20⟩ (.slice C 1 c2))
  have HIY := Lib.hid (HI14.out.below ((Below.refl _ w14).alloc (Nat.le_refl _) (.cells (enA ⟨5, 3, 2, 20, true, 5, 0, 0, 1, [[119, 101, 98]], 7, 40, 20⟩ (.slice C 1 c2)) 35)))
  have HBY := Lib.hid (HB14.out.alloc HB14.out.size (.cells (enA ⟨5, 3, 2, 20, true, 5, 0, 0, 1, [[119, 101, 98]], 7, 40, 20⟩ (.slice C 1 c2)) 35))
  clear hcl
  unfold enA at *
  simp only [one14] at *
  have hq : ∀ W, (binOp .eql 30 (.agg #[.int .i64 5, .int .i64 3, .int .i64 2, .int .i64 20, .bool true]) (.agg #[.int .i64 5, .int .i64 3, .int .i64 2, .int .i64 20, .bool true])).run Try.prog W = .ok (.bool true) W := fun W => eq_it W ⟨5, 3, 2, 20, true⟩ ⟨5, 3, 2, 20, true⟩
  go_wp2_with fail
  revert HIY HBY
  generalize w14.alloc _ = w15
  intro HIY HBY
  clear i0 i5 i10 hcap1 hcap2 hgl hq HI14 HB14 HL14 HYB
  refine (in14_any HIY.out 7).mono ?_
  rintro e w16 ⟨v, rfl, ho, d16⟩
  obtain ⟨gi, ci, rfl, hci1, hci2, hLi⟩ : ∃ gi ci, v = .slice (some ⟨gi, 0, none⟩) 2 ci ∧ 2 ≤ ci ∧ ci ≤ maxLen ∧ Lies w16 (some ⟨gi, 0, none⟩) (nums [5, 4]) := by
    rcases ho.2 with ⟨-, h0⟩ | ⟨g, cap, cur, rfl, hb, hg, h1, h2, h3⟩
    · cases h0
    · exact ⟨g, cap, rfl, h1, h2, .inr ⟨_, rfl, (ho.lt g rfl).2, ho.cells (g := g) rfl⟩⟩
  have hN2 := lies_new5 w16 #[.int .i64 5, .int .i64 4] 2 (nums [5, 4]) rfl
  have hb17 : Below w16.heap.size w16 (w16.alloc (.cells #[.int .i64 5, .int .i64 4] 2)) := (Below.refl _ _).alloc (Nat.le_refl _) _
  have HSI := Lib.hid (sameIds_any (some ⟨gi, 0, none⟩) (some ⟨w16.heap.size, 0, none⟩) 2 2 ci 2 [5, 4] [5, 4] _ rfl rfl hci1 (Nat.le_refl _) hci2 (by unfold maxLen; omega) (hLi.below hb17) hN2)
  have HI17 := Lib.hid ((HIY.out.below d16).below hb17)
  have HB17 := Lib.hid ((HBY.out.trans (d16.mono HBY.out.size)).trans (hb17.mono (Nat.le_trans HBY.out.size d16.size)))
  clear ho d16 hci1 hci2 hLi hN2 hb17 HIY HBY
  go_wp2_with fail
  refine HSI.out.mono ?_
  rintro e w18 ⟨rfl, d18⟩
  have HI18 := Lib.hid (HI17.out.below d18)
  have HB18 := Lib.hid (HB17.out.trans (d18.mono HB17.out.size))
  clear d18 HSI HI17 HB17
  simp only [decide_true]
  go_wp2_with fail
  refine (many14_any HI18.out).mono ?_
  rintro e w19 ⟨he, rfl⟩
  obtain rfl : e = .returned (.int .i64 2) := he
  have HU := Lib.hid (pin14_any HI18.out (i := 9) (i64_any (by decide) (by decide)) true)
  go_wp2_with fail
  refine HU.out.mono ?_
  rintro e w20 ⟨he, hI, hk⟩
  obtain rfl : e = .returned (.bool false) := he
  have HB20 := Lib.hid (Kept.below HB18.out hk (fun k hk => HM11.out k (mine_del 3 k (mine_del 3 k hk))))
  clear hI hk HU
  go_wp2
  go_ret
  exact ⟨rfl, HB20.out⟩
end Go.Proofs.Ytepfbpljkhchbaa

