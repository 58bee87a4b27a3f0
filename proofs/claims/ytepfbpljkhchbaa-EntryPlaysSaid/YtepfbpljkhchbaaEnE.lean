/-
  Layer 14: Pin, Class, Move of the developers' index: what they answer, of any index. Assumed: that the index lies in memory.
-/
import Derived.Test.YtepfbpljkhchbaaEnD

namespace Go.Proofs.Ytepfbpljkhchbaa
open Go.RowKit Go.Maps En
set_option maxRecDepth 100000

section
variable {R : List Nat} {w : World} {x b : Nat} {p : Int → Nat} {m : List E}
/-- an entry's block is written into -/
theorem IsIdx.upd (h : IsIdx R w x b p m) {i : Int} {y : E} (hy : En.get m i = some y) (f : E → E) (hf : ∀ x, (f x).id = x.id) (ht : ∀ x, (f x).tick = x.tick) (hs : ∀ x, (f x).sv = x.sv) {w' : World} (hk : Kept [p i] w w') (hB : ∀ s, BoxE w (p i) y s → BoxE w' (p i) (f y) s) : IsIdx R w' x b p (En.upd m i f) := by
  obtain ⟨hym, hyi⟩ := get_some hy
  have hpx := h.px hym
  rw [hyi] at hpx
  have hids := upd_ids m i f hf
  have hback : ∀ e ∈ En.upd m i f, ∃ e0 ∈ m, e0.id = e.id ∧ e = if e0.id = i then f e0 else e0 := fun e he => by
    obtain ⟨e0, h0, rfl⟩ := List.mem_map.1 he
    refine ⟨e0, h0, ?_, rfl⟩
    split
    · exact (hf e0).symm
    · rfl
  have hmine : ∀ k ∈ mine x b p (En.upd m i f), k ∈ mine x b p m := fun k hk => by
    rcases mem_mine.1 hk with h6 | h6 | ⟨e, he, e6⟩
    · exact mem_mine.2 (.inl h6)
    · exact mem_mine.2 (.inr (.inl h6))
    · obtain ⟨e0, h0, h1, -⟩ := hback e he
      exact mem_mine.2 (.inr (.inr ⟨e0, h0, by rw [h1]; exact e6⟩))
  refine ⟨h.ok.upd i f hf ht, fun e he => ?_, by have := h.few; simpa [En.upd] using this, hk.blk h.box (by simpa using hpx.1.symm), ?_, fun e he e' he' => ?_, fun e he => ?_, fun k hk2 => h.out k (hmine k hk2)⟩
  · obtain ⟨e0, h0, h1, -⟩ := hback e he
    rw [← h1]; exact h.fit e0 h0
  · obtain ⟨D, hD, hH⟩ := h.map
    refine ⟨D, ?_, hH.upd i f hf⟩
    have := ownsMap_block hD (hk.block b hD.lt (by simpa using hpx.2.1.symm))
    simpa [En.upd] using this
  · obtain ⟨e0, h0, h1, -⟩ := hback e he
    obtain ⟨e0', h0', h1', -⟩ := hback e' he'
    rw [← h1, ← h1']
    exact h.inj e0 h0 e0' h0'
  · obtain ⟨e0, h0, h1, he1⟩ := hback e he
    obtain ⟨A, cap, h3, h4, h5⟩ := h.ent e0 h0
    have hsv : e.sv = e0.sv := by
      rw [he1]
      split
      · exact hs e0
      · rfl
    have hoff : Off [p i] A (strs e0.sv) := h5.mono fun k hk => by
      rw [List.mem_singleton.1 hk, ← hyi]
      exact List.mem_append_right _ (mem_mine.2 (.inr (.inr ⟨y, hym, rfl⟩)))
    have h6 := h4.kept hoff hk
    rw [hsv]
    refine ⟨A, cap, ?_, h6, h5.mono fun k hk => ?_⟩
    · rw [← h1, he1]
      by_cases hei : e0.id = i
      · rw [if_pos hei]
        have hey : e0 = y := h.ok.uq.inj h0 hym (hei.trans hyi.symm)
        subst hey
        rw [hei] at h3 ⊢
        exact hB _ h3
      · rw [if_neg hei]
        exact hk.blk h3 (by
          simp only [List.mem_singleton]
          intro e2
          rw [← hyi] at e2
          exact hei ((h.inj e0 h0 y hym e2).trans hyi))
    · rcases List.mem_append.1 hk with hk | hk
      · exact List.mem_append_left _ hk
      · exact List.mem_append_right _ (hmine k hk)
theorem mine_upd (i : Int) (f : E → E) (hf : ∀ x, (f x).id = x.id) : ∀ k ∈ mine x b p (En.upd m i f), k ∈ mine x b p m := fun k hk => by
  rcases mem_mine.1 hk with h6 | h6 | ⟨e, he, e6⟩
  · exact mem_mine.2 (.inl h6)
  · exact mem_mine.2 (.inr (.inl h6))
  · obtain ⟨e0, h0, rfl⟩ := List.mem_map.1 he
    refine mem_mine.2 (.inr (.inr ⟨e0, h0, ?_⟩))
    have e7 : (if e0.id = i then f e0 else e0).id = e0.id := by
      split
      · exact hf e0
      · rfl
    rw [← e6]
    exact (congrArg p e7).symm

/-- change, with a function that writes into the entry's block alone -/
theorem change14_any (h : IsIdx R w x b p m) {i : Int} (hi : I64 i) (fn : Nat) (bd : Array Value) (f : E → E) (hf : ∀ x, (f x).id = x.id) (ht : ∀ x, (f x).tick = x.tick) (hs : ∀ x, (f x).sv = x.sv)
    (eg : ∀ args w, (callFunc fn args).run Try.prog w = .ok (.enter fn args) w)
    (hc : ∀ y s, BoxE w (p i) y s → Calls Try.prog fn (#[.pointer (some ⟨p i, 0, none⟩)] ++ bd) w fun e w' => e = .returned (.tuple #[]) ∧ Kept [p i] w w' ∧ BoxE w' (p i) (f y) s) :
    Calls Try.prog 39 #[.pointer (some ⟨x, 0, none⟩), .int .i64 i, .func (.func fn) #[] bd] w fun e w' => e = .returned (.bool (En.get m i).isSome) ∧ IsIdx R w' x b p (En.upd m i f) ∧ Kept ((En.get m i).toList.map fun e => p e.id) w w' := by
  have c0 : w.cell? ⟨x, 0, none⟩ = some (.map (some b)) := h.box.cell 0
  have hL := h.look hi
  cases hg : En.get m i with
  | none =>
    rw [hg] at hL
    have HU := Lib.hid (upd_none f hg)
    have HI := Lib.hid h
    simp only [Option.isSome_none, Bool.false_eq_true, if_false] at hL ⊢
    clear h hg hc
    go_enter Try.func39, Try.ntmps39
    go_wp2
    go_ret
    exact ⟨rfl, by rw [HU.out]; exact HI.out, Kept.refl _ _⟩
  | some y =>
    rw [hg] at hL
    obtain ⟨hym, hyi⟩ := get_some hg
    obtain ⟨A, cap, hE, hS, hO⟩ := h.ent y hym
    rw [hyi] at hE
    have HC := Lib.hid (hc y _ hE)
    have HI := Lib.hid (fun (w' : World) (hk : Kept [p i] w w') (hB : BoxE w' (p i) (f y) (.slice A y.sv.length cap)) => h.upd hg f hf ht hs hk (fun s hs => by
      have e : s = .slice A y.sv.length cap := by
        have h1 := BoxE.all hs
        have h2 := BoxE.all hE
        have := h1.2.2.2.2.2.2.2.2.2.1.symm.trans h2.2.2.2.2.2.2.2.2.2.1
        injection this
      rw [e]; exact hB))
    simp only [Option.isSome_some, if_true, Option.toList_some, List.map_cons, List.map_nil] at hL ⊢
    rw [hyi]
    generalize En.upd m i f = m' at *
    clear h hg hc hE hS hO hym hyi hf ht hs
    go_enter Try.func39, Try.ntmps39
    go_wp2_with fail
    refine HC.out.mono ?_
    rintro e w1 ⟨rfl, hk, hB⟩
    have HI1 := Lib.hid (HI.out w1 hk hB)
    have HK := Lib.hid hk
    clear hk hB HI HC
    go_wp2
    go_ret
    exact ⟨rfl, HI1.out, HK.out⟩

theorem pinF14 (g k : Nat) (is : Bool) (y : E) (s : Value) (w : World) (hB : BoxE w g y s) (hk : w.cell? ⟨k, 0, none⟩ = some (.bool is)) :
    Calls Try.prog 40 #[.pointer (some ⟨g, 0, none⟩), .pointer (some ⟨k, 0, none⟩)] w fun e w' => e = .returned (.tuple #[]) ∧ Kept [g] w w' ∧ BoxE w' g { y with pin := is } s := by
  have f4 := hB.frozen 4
  obtain ⟨-, -, -, -, c4, -⟩ := hB.all
  have HS := Lib.hid (show BoxE (w.setCell ⟨g, 4, none⟩ (.bool is)) g { y with pin := is } s from Blk.set hB 4 (.bool is))
  have HK := Lib.hid ((Kept.refl [g] w).setCell (p := ⟨g, 4, none⟩) (by simp) (.bool is))
  clear hB
  go_enter Try.func40, Try.ntmps40
  go_wp2
  go_returns
  exact ⟨rfl, HK.out, HS.out⟩
theorem classF14 (g k : Nat) (cl : Int) (y : E) (s : Value) (w : World) (hB : BoxE w g y s) (hk : w.cell? ⟨k, 0, none⟩ = some (.int .i64 cl)) :
    Calls Try.prog 42 #[.pointer (some ⟨g, 0, none⟩), .pointer (some ⟨k, 0, none⟩)] w fun e w' => e = .returned (.tuple #[]) ∧ Kept [g] w w' ∧ BoxE w' g { y with cl := cl } s := by
  have f1 := hB.frozen 1
  obtain ⟨-, c1, -⟩ := hB.all
  have HS := Lib.hid (show BoxE (w.setCell ⟨g, 1, none⟩ (.int .i64 cl)) g { y with cl := cl } s from Blk.set hB 1 (.int .i64 cl))
  have HK := Lib.hid ((Kept.refl [g] w).setCell (p := ⟨g, 1, none⟩) (by simp) (.int .i64 cl))
  clear hB
  go_enter Try.func42, Try.ntmps42
  go_wp2
  go_returns
  exact ⟨rfl, HK.out, HS.out⟩
set_option maxHeartbeats 4000000 in
theorem moveF14 (g k1 k2 k3 : Nat) (sq pl sz : Int) (y : E) (s : Value) (w : World) (hB : BoxE w g y s) (h1 : w.cell? ⟨k1, 0, none⟩ = some (.int .i64 sq)) (h2 : w.cell? ⟨k2, 0, none⟩ = some (.int .i64 pl)) (h3 : w.cell? ⟨k3, 0, none⟩ = some (.int .i64 sz)) (_n1 : k1 ≠ g) (_n2 : k2 ≠ g) (_n3 : k3 ≠ g) :
    Calls Try.prog 43 #[.pointer (some ⟨g, 0, none⟩), .pointer (some ⟨k1, 0, none⟩), .pointer (some ⟨k2, 0, none⟩), .pointer (some ⟨k3, 0, none⟩)] w fun e w' => e = .returned (.tuple #[]) ∧ Kept [g] w w' ∧ BoxE w' g { y with seq := sq, pl := pl, sz := sz } s := by
  have f10 := hB.frozen 10
  have f11 := hB.frozen 11
  have f12 := hB.frozen 12
  obtain ⟨-, -, -, -, -, -, -, -, -, -, c10, c11, c12⟩ := hB.all
  have HB := Lib.hid hB
  clear hB
  go_enter Try.func43, Try.ntmps43
  go_wp2
  go_region
  go_wp2
  go_returns
  have HS : BoxE (((w.setCell ⟨g, 10, none⟩ (.int .i64 sq)).setCell ⟨g, 11, none⟩ (.int .i64 pl)).setCell ⟨g, 12, none⟩ (.int .i64 sz)) g { y with seq := sq, pl := pl, sz := sz } s := Blk.set (Blk.set (Blk.set HB.out 10 (.int .i64 sq)) 11 (.int .i64 pl)) 12 (.int .i64 sz)
  have HK : Kept [g] w (((w.setCell ⟨g, 10, none⟩ (.int .i64 sq)).setCell ⟨g, 11, none⟩ (.int .i64 pl)).setCell ⟨g, 12, none⟩ (.int .i64 sz)) := (((Kept.refl [g] w).setCell (p := ⟨g, 10, none⟩) (by simp) (.int .i64 sq)).setCell (p := ⟨g, 11, none⟩) (by simp) (.int .i64 pl)).setCell (p := ⟨g, 12, none⟩) (by simp) (.int .i64 sz)
  exact ⟨rfl, ⟨HK.os, HK.tape, HK.output, HK.size, HK.block⟩, HS⟩

/-- what Pin, Class and Move do -/
def pinU (is : Bool) (y : E) : E := { y with pin := is }
def classU (cl : Int) (y : E) : E := { y with cl := cl }
def moveU (sq pl sz : Int) (y : E) : E := { y with seq := sq, pl := pl, sz := sz }

/-- what a change comes to -/
def Upd14 (R : List Nat) (w : World) (x b : Nat) (p : Int → Nat) (m : List E) (i : Int) (f : E → E) (e : Ending) (w' : World) : Prop := e = .returned (.bool (En.get m i).isSome) ∧ IsIdx R w' x b p (En.upd m i f) ∧ Kept (mine x b p m) w w'
theorem upd14_of {R : List Nat} {w w1 w' : World} {x b : Nat} {p : Int → Nat} {m : List E} {i : Int} {f : E → E} {e : Ending} (hb : Below w.heap.size w w1) (h : e = .returned (.bool (En.get m i).isSome) ∧ IsIdx R w' x b p (En.upd m i f) ∧ Kept ((En.get m i).toList.map fun e => p e.id) w1 w') : Upd14 R w x b p m i f e w' := by
  refine ⟨h.1, h.2.1, (Kept.of hb _).trans (h.2.2.mono fun k hk => ?_)⟩
  obtain ⟨y, hy, rfl⟩ := List.mem_map.1 hk
  exact mem_mine.2 (.inr (.inr ⟨y, (get_some (by simpa using hy)).1, rfl⟩))

theorem pin14_any (h : IsIdx R w x b p m) {i : Int} (hi : I64 i) (is : Bool) : Calls Try.prog 15 #[.pointer (some ⟨x, 0, none⟩), .int .i64 i, .bool is] w (Upd14 R w x b p m i (pinU is)) := by
  have hb : Below w.heap.size w (w.alloc (.cells #[.bool is] 4)) := (Below.refl _ _).alloc (Nat.le_refl _) _
  have HB := Lib.hid hb
  have hbx := Blk.new w #[.bool is] 4
  have HC := Lib.hid (change14_any (h.below hb) hi 40 #[.pointer (some ⟨w.heap.size, 0, none⟩)] (pinU is) (fun _ => rfl) (fun _ => rfl) (fun _ => rfl) (enters_of Try.func40 (by kernel_rfl) rfl) (fun y s hB => pinF14 (p i) w.heap.size is y s _ hB (hbx.cell 0)))
  have HU := Lib.hid (fun (e : Ending) (w' : World) => upd14_of (R := R) (x := x) (b := b) (p := p) (m := m) (i := i) (f := pinU is) (e := e) (w' := w') hb)
  clear h hb hbx
  unfold Upd14 at *
  generalize En.upd m i (pinU is) = m' at *
  go_enter Try.func15, Try.ntmps15
  go_wp2_with fail
  refine HC.out.mono ?_
  rintro e w1 h
  obtain ⟨h1, h2, h3⟩ := HU.out e w1 h
  subst h1
  have H2 := Lib.hid h2
  have H3 := Lib.hid h3
  clear h2 h3 HC HU HB h
  go_wp2
  go_ret
  exact ⟨rfl, H2.out, H3.out⟩
theorem class14_any (h : IsIdx R w x b p m) {i : Int} (hi : I64 i) (cl : Int) : Calls Try.prog 17 #[.pointer (some ⟨x, 0, none⟩), .int .i64 i, .int .i64 cl] w (Upd14 R w x b p m i (classU cl)) := by
  have hb : Below w.heap.size w (w.alloc (.cells #[.int .i64 cl] 3)) := (Below.refl _ _).alloc (Nat.le_refl _) _
  have HB := Lib.hid hb
  have hbx := Blk.new w #[.int .i64 cl] 3
  have HC := Lib.hid (change14_any (h.below hb) hi 42 #[.pointer (some ⟨w.heap.size, 0, none⟩)] (classU cl) (fun _ => rfl) (fun _ => rfl) (fun _ => rfl) (enters_of Try.func42 (by kernel_rfl) rfl) (fun y s hB => classF14 (p i) w.heap.size cl y s _ hB (hbx.cell 0)))
  have HU := Lib.hid (fun (e : Ending) (w' : World) => upd14_of (R := R) (x := x) (b := b) (p := p) (m := m) (i := i) (f := classU cl) (e := e) (w' := w') hb)
  clear h hb hbx
  unfold Upd14 at *
  generalize En.upd m i (classU cl) = m' at *
  go_enter Try.func17, Try.ntmps17
  go_wp2_with fail
  refine HC.out.mono ?_
  rintro e w1 h
  obtain ⟨h1, h2, h3⟩ := HU.out e w1 h
  subst h1
  have H2 := Lib.hid h2
  have H3 := Lib.hid h3
  clear h2 h3 HC HU HB h
  go_wp2
  go_ret
  exact ⟨rfl, H2.out, H3.out⟩
theorem move14_any (h : IsIdx R w x b p m) {i : Int} (hi : I64 i) (sq pl sz : Int) : Calls Try.prog 19 #[.pointer (some ⟨x, 0, none⟩), .int .i64 i, .int .i64 sq, .int .i64 pl, .int .i64 sz] w (Upd14 R w x b p m i (moveU sq pl sz)) := by
  obtain ⟨W1, hW1⟩ : ∃ W1, w.alloc (.cells #[.int .i64 sq] 2) = W1 := ⟨_, rfl⟩
  obtain ⟨W2, hW2⟩ : ∃ W2, W1.alloc (.cells #[.int .i64 pl] 3) = W2 := ⟨_, rfl⟩
  obtain ⟨W3, hW3⟩ : ∃ W3, W2.alloc (.cells #[.int .i64 sz] 3) = W3 := ⟨_, rfl⟩
  have z1 : W1.heap.size = w.heap.size + 1 := by rw [← hW1]; simp
  have z2 : W2.heap.size = w.heap.size + 1 + 1 := by rw [← hW2]; simp [z1]
  have b1 : Below w.heap.size w W1 := by rw [← hW1]; exact (Below.refl _ _).alloc (Nat.le_refl _) _
  have b2 : Below W1.heap.size W1 W2 := by rw [← hW2]; exact (Below.refl _ _).alloc (Nat.le_refl _) _
  have b3 : Below W2.heap.size W2 W3 := by rw [← hW3]; exact (Below.refl _ _).alloc (Nat.le_refl _) _
  have k1 : Blk W1 w.heap.size #[.int .i64 sq] 2 := by rw [← hW1]; exact Blk.new _ _ _
  have k2 : Blk W2 (w.heap.size + 1) #[.int .i64 pl] 3 := by rw [← hW2, ← z1]; exact Blk.new _ _ _
  have k3 : Blk W3 (w.heap.size + 1 + 1) #[.int .i64 sz] 3 := by rw [← hW3, ← z2]; exact Blk.new _ _ _
  have k1 := (Kept.of b3 []).blk ((Kept.of b2 []).blk k1 (by simp)) (by simp)
  have k2 := (Kept.of b3 []).blk k2 (by simp)
  have hb : Below w.heap.size w W3 := (b1.trans (b2.mono b1.size)).trans (b3.mono (Nat.le_trans b1.size b2.size))
  have hpi : ∀ y s, BoxE W3 (p i) y s → w.heap.size ≠ p i ∧ w.heap.size + 1 ≠ p i ∧ w.heap.size + 1 + 1 ≠ p i := fun y s hB => by
    refine ⟨fun e => ?_, fun e => ?_, fun e => ?_⟩
    · rw [← e] at hB; have := k1.symm.trans hB; injection this with this; injection this with this; have := congrArg Array.size this; simp [enA] at this
    · rw [← e] at hB; have := k2.symm.trans hB; injection this with this; injection this with this; have := congrArg Array.size this; simp [enA] at this
    · rw [← e] at hB; have := k3.symm.trans hB; injection this with this; injection this with this; have := congrArg Array.size this; simp [enA] at this
  have HC := Lib.hid (change14_any (h.below hb) hi 43 #[.pointer (some ⟨w.heap.size, 0, none⟩), .pointer (some ⟨w.heap.size + 1, 0, none⟩), .pointer (some ⟨w.heap.size + 1 + 1, 0, none⟩)] (moveU sq pl sz) (fun _ => rfl) (fun _ => rfl) (fun _ => rfl) (enters_of Try.func43 (by kernel_rfl) rfl) (fun y s hB => moveF14 (p i) w.heap.size (w.heap.size + 1) (w.heap.size + 1 + 1) sq pl sz y s _ hB (k1.cell 0) (k2.cell 0) (k3.cell 0) (hpi y s hB).1 (hpi y s hB).2.1 (hpi y s hB).2.2))
  have HU := Lib.hid (fun (e : Ending) (w' : World) => upd14_of (R := R) (x := x) (b := b) (p := p) (m := m) (i := i) (f := moveU sq pl sz) (e := e) (w' := w') hb)
  rw [← hW3, ← hW2, ← hW1] at HC HU
  clear h hb k1 k2 k3 b1 b2 b3 hW1 hW2 hW3 hpi z1 z2
  unfold Upd14 at *
  generalize En.upd m i (moveU sq pl sz) = m' at *
  go_enter Try.func19, Try.ntmps19
  go_wp2_with fail
  refine HC.out.mono ?_
  rintro e w1 h
  obtain ⟨h1, h2, h3⟩ := HU.out e w1 h
  subst h1
  have H2 := Lib.hid h2
  have H3 := Lib.hid h3
  clear h2 h3 HC HU h
  go_wp2
  go_ret
  exact ⟨rfl, H2.out, H3.out⟩
end
end Go.Proofs.Ytepfbpljkhchbaa
