/-
  Plain mathematics of layer 10, with no program in it: the table that a device has, in one of two sectors; tables that are saved, and power that fails meanwhile. Nothing is assumed.
-/
import Derived.Test.YtehnhjnkbclnlaaGreatDoorMath7
import Derived.Test.YtehnhjnkbclnlaaGreatDoorMath9

namespace Go.Proofs.YtehnhjnkbclnlaaGreatDoor.Su
open Go.Proofs.YtehnhjnkbclnlaaGreatDoor.Plain (Dv upd Hu)

/-- J1 -/
def slot (g : Int) : Nat := (g % 2).toNat
theorem slot_lt (g : Int) : slot g < 2 := by unfold slot; omega
theorem slot_int (g : Int) : ((slot g : Nat) : Int) = g % 2 := by unfold slot; omega
theorem slot_next (g : Int) : slot (g + 1) = 1 - slot g := by unfold slot; omega
theorem slot_two (g : Int) : slot g = 0 ∨ slot g = 1 := by have := slot_lt g; omega
/-- one sector more is looked at -/
def look (b : Tb.T × Bool) (i : Nat) (s : List UInt8) : Tb.T × Bool := if Tb.ok s = true ∧ slot (Tb.got s).gen = i ∧ b.1.gen < (Tb.got s).gen then (Tb.got s, true) else b
def best (s0 s1 : List UInt8) : Tb.T × Bool := look (look (Tb.T.zero, false) 0 s0) 1 s1
def load (d : Dv) : Tb.T × Bool × Nat := if d.down = true then (Tb.T.zero, false, 71) else if d.n < 2 then (Tb.T.zero, false, 1) else ((best (d.sec 0) (d.sec 1)).1, (best (d.sec 0) (d.sec 1)).2, 0)
/-- J2 -/
def save (d : Dv) (t : Tb.T) : Dv × Nat :=
  if Tb.right t = false then (d, 1)
  else if d.flush.2 ≠ 0 then d.flush
  else if (d.flush.1.write (slot t.gen) (Tb.put t)).2 ≠ 0 then d.flush.1.write (slot t.gen) (Tb.put t)
  else (d.flush.1.write (slot t.gen) (Tb.put t)).1.flush
theorem save_no {d : Dv} {t : Tb.T} (h : Tb.right t = false) : save d t = (d, 1) := by unfold save; rw [if_pos h]
theorem save_ok {d : Dv} (h : d.Ok) (t : Tb.T) : (save d t).1.Ok := by
  unfold save
  split
  · exact h
  · split
    · exact d.flush_ok h
    · split
      · exact (d.flush.1).write_ok (d.flush_ok h) _ _
      · exact Plain.Dv.flush_ok _ ((d.flush.1).write_ok (d.flush_ok h) _ _)
theorem save_n (d : Dv) (t : Tb.T) : (save d t).1.n = d.n := by
  unfold save
  split
  · rfl
  · split
    · exact d.flush_n
    · split
      · rw [Plain.Dv.write_n, Plain.Dv.flush_n]
      · rw [Plain.Dv.flush_n, Plain.Dv.write_n, Plain.Dv.flush_n]
theorem save_done (d : Dv) (t : Tb.T) : (save d t).1.done ≤ d.done + 3 := by
  have h1 := d.flush_done
  have h2 := (d.flush.1).write_done (slot t.gen) (Tb.put t)
  have h3 := Plain.Dv.flush_done ((d.flush.1).write (slot t.gen) (Tb.put t)).1
  unfold save
  split
  · simp
  · split
    · omega
    · split
      · omega
      · omega
theorem put_64 {t : Tb.T} (h : Tb.right t = true) : (Tb.put t).length = 64 := by rw [Tb.put_length, if_pos h]
/-- Save, where power does not fail -/
theorem save_free {d : Dv} (h : Plain.Free d) (hn : 2 ≤ d.n) {t : Tb.T} (hr : Tb.right t = true) : save d t = ({ d with kept := upd d.sec (slot t.gen) (Tb.put t), wr := fun _ => none, done := d.done + 3 }, 0) := by
  have hs := slot_lt t.gen
  have h1 := h.flush
  have f1 := h.flush_free
  have h2 := f1.write (slot t.gen) (Tb.put t) (by rw [d.flush_n]; omega) (put_64 hr)
  have f2 := f1.write_free (slot t.gen) (Tb.put t) (by rw [d.flush_n]; omega) (put_64 hr)
  have h3 := f2.flush
  have e1 : d.flush.2 = 0 := by rw [h1]
  have e2 : (d.flush.1.write (slot t.gen) (Tb.put t)).2 = 0 := by rw [h2]
  unfold save
  rw [if_neg (by simp [hr]), if_neg (by simp [e1]), if_neg (by simp [e2]), h3, h2, h1]
  congr 1
  have e : (fun i => (upd (fun _ => none) (slot t.gen) (some (Tb.put t)) i).getD (d.sec i)) = upd d.sec (slot t.gen) (Tb.put t) := by
    funext i
    unfold upd
    split <;> rfl
  simp only [← e]
  rfl
theorem save_stays {d : Dv} (h : Plain.Free d) (hn : 2 ≤ d.n) {t : Tb.T} (hr : Tb.right t = true) : Plain.Free (save d t).1 := by
  have := save_ok h.ok t
  rw [save_free h hn hr] at this ⊢
  exact ⟨this, h.cut, h.down⟩
theorem save_sec {d : Dv} (h : Plain.Free d) (hn : 2 ≤ d.n) {t : Tb.T} (hr : Tb.right t = true) (j : Nat) : (save d t).1.sec j = if j = slot t.gen then Tb.put t else d.sec j := by
  rw [save_free h hn hr]
  rfl
theorem save_iff {d : Dv} (h : Plain.Free d) (hn : 2 ≤ d.n) (t : Tb.T) : (save d t).2 = 0 ↔ Tb.right t = true := by
  cases hr : Tb.right t with
  | false => rw [save_no hr]; simp
  | true => rw [save_free h hn hr]; exact ⟨fun _ => rfl, fun _ => rfl⟩

theorem full_wrong : Tb.ok (Plain.full 0) = false := by
  cases ho : Tb.ok (Plain.full 0) with
  | false => rfl
  | true =>
    have h := (Tb.ok_back ho).1
    rw [show Tb.right (Tb.told (Plain.full 0)) = false by decide] at h
    cases h
theorem look_no {b : Tb.T × Bool} {i : Nat} {s : List UInt8} (h : Tb.ok s = true → slot (Tb.got s).gen = i → ¬ b.1.gen < (Tb.got s).gen) : look b i s = b := by
  unfold look
  rw [if_neg]
  rintro ⟨h1, h2, h3⟩
  exact h h1 h2 h3
theorem look_put {b : Tb.T × Bool} {t : Tb.T} (hr : Tb.right t = true) (h : b.1.gen < t.gen) : look b (slot t.gen) (Tb.put t) = (t, true) := by
  unfold look
  rw [Tb.ok_put hr, Tb.got_put hr, if_pos ⟨rfl, rfl, h⟩]
theorem look_small {b : Tb.T × Bool} {i : Nat} {s : List UInt8} {g : Int} (hb : b.1.gen < g) (h : Tb.ok s = true → slot (Tb.got s).gen = i → (Tb.got s).gen < g) : (look b i s).1.gen < g := by
  unfold look
  split
  · rename_i hc
    exact h hc.1 hc.2.1
  · exact hb
/-- the one that has a greater Gen than what the other sector has -/
theorem load_is {d : Dv} (hd : d.down = false) (hn : 2 ≤ d.n) {t : Tb.T} (hr : Tb.right t = true) (h : d.sec (slot t.gen) = Tb.put t)
    (ho : Tb.ok (d.sec (1 - slot t.gen)) = true → slot (Tb.got (d.sec (1 - slot t.gen))).gen = 1 - slot t.gen → (Tb.got (d.sec (1 - slot t.gen))).gen < t.gen) : load d = (t, true, 0) := by
  have hg : 0 < t.gen := by have := (Tb.right_iff.1 hr).g1; omega
  unfold load
  rw [if_neg (by simp [hd]), if_neg (by omega)]
  have e : best (d.sec 0) (d.sec 1) = (t, true) := by
    unfold best
    rcases slot_two t.gen with h0 | h0
    · rw [h0] at h ho
      have h1 := look_put (b := (Tb.T.zero, false)) hr hg
      rw [h0] at h1
      rw [h, h1]
      refine look_no fun h2 h3 => ?_
      have := ho h2 h3
      show ¬ t.gen < _
      simp only [Nat.sub_zero] at this
      omega
    · rw [h0] at h ho
      have h1 := look_put (b := look (Tb.T.zero, false) 0 (d.sec 0)) hr (look_small hg ho)
      rw [h0] at h1
      rw [h, h1]
  rw [e]
/-- nothing to be found -/
theorem load_none {d : Dv} (hd : d.down = false) (hn : 2 ≤ d.n) (h : ∀ i, i < 2 → Tb.ok (d.sec i) = true → slot (Tb.got (d.sec i)).gen ≠ i) : load d = (Tb.T.zero, false, 0) := by
  unfold load
  rw [if_neg (by simp [hd]), if_neg (by omega)]
  have e : best (d.sec 0) (d.sec 1) = (Tb.T.zero, false) := by
    unfold best
    rw [look_no fun h1 h2 => absurd h2 (h 0 (by omega) h1), look_no fun h1 h2 => absurd h2 (h 1 (by omega) h1)]
  rw [e]
theorem load_up {d : Dv} (hd : d.down = false) (hn : 2 ≤ d.n) : (load d).2.2 = 0 := by
  unfold load
  rw [if_neg (by simp [hd]), if_neg (by omega)]
theorem new_free (n : Nat) (h1 : 1 ≤ n) (h2 : n ≤ 4096) : Plain.Free (Dv.new n) := Plain.Free.new n h1 h2
theorem new_sec (n i : Nat) : (Dv.new n).sec i = Plain.full 0 := rfl
theorem load_new (n : Nat) (h : 2 ≤ n) : load (Dv.new n) = (Tb.T.zero, false, 0) :=
  load_none rfl h fun i _ ho => by rw [new_sec, full_wrong] at ho; cases ho

/-! power that fails -/
theorem tr_turned (s : List UInt8) (a x : Nat) (hs : s.length = 64) (ha : a + 32 ≤ 512) : ∀ k, k ≤ 32 → Turned s (Plain.tr s a x k) a x k
  | 0, _ => Turned.start s a x
  | k + 1, hk => by
    have ih := tr_turned s a x hs ha k (by omega)
    rw [Plain.tr_succ]
    have hb : x.testBit k = decide (x / 2 ^ k % 2 = 1) := by rw [Nat.testBit_eq_decide_div_mod_eq]
    by_cases h1 : x / 2 ^ k % 2 = 1
    · rw [if_pos ⟨by omega, h1⟩]
      have hl : (Plain.tr s a x k).length = 64 := by rw [Plain.tr_length, hs]
      have hq : (a + k) / 8 < (Plain.tr s a x k).length := by omega
      refine Turned.turn ih (by rw [hb]; simp [h1]) rfl rfl hq _ ?_
      rw [List.getD_eq_getElem?_getD, List.getElem?_eq_getElem hq, Option.getD_some, UInt8.toNat_xor]
      congr 1
      have h8 : (a + k) % 8 < 8 := Nat.mod_lt _ (by omega)
      generalize (a + k) % 8 = e at h8
      obtain rfl | rfl | rfl | rfl | rfl | rfl | rfl | rfl : e = 0 ∨ e = 1 ∨ e = 2 ∨ e = 3 ∨ e = 4 ∨ e = 5 ∨ e = 6 ∨ e = 7 := by omega
      all_goals rfl
    · rw [if_neg (by omega)]
      exact Turned.skip ih (by rw [hb]; simp [h1])
/-- a sector that turned behind its Gen is as it was, or no table -/
theorem turn_wrong {t : Tb.T} (hr : Tb.right t = true) {a : Int} {x : Nat} (h1 : 40 ≤ a) (h2 : a ≤ 480) (hx : x < 4294967296) : Plain.turn (Tb.put t) a x = Tb.put t ∨ Tb.ok (Plain.turn (Tb.put t) a x) = false := by
  unfold Plain.turn
  rw [if_neg (by omega)]
  have ht := tr_turned (Tb.put t) a.toNat x (put_64 hr) (by omega) 32 (Nat.le_refl _)
  by_cases h0 : x = 0
  · exact .inl (ht.2.1 h0)
  · exact .inr (Tb.burst hr ht (by omega) (by omega) hx h0)
theorem loose_none {d : Dv} (h : ∀ i, d.wr i = none) : d.loose = [] := by
  unfold Plain.Dv.loose
  rw [List.filter_eq_nil_iff]
  intro i _
  simp [h i]
/-- power that fails where nothing is loose -/
theorem boot_still {d : Dv} (h : ∀ i, d.wr i = none) (keep : List Bool) (hurt : List Hu) (j : Nat) : (d.boot keep hurt).sec j = d.kept j := by
  have hl := loose_none h
  have hh : ∀ (l : List Hu) (K : Nat → List UInt8), l.foldl (d.hurt1 keep) K = K := by
    intro l
    induction l with
    | nil => intro K; rfl
    | cons u l ih =>
      intro K
      rw [List.foldl_cons, ih]
      unfold Plain.Dv.hurt1 Plain.Dv.hits
      rw [hl, if_neg]
      simp
      omega
  unfold Plain.Dv.boot Plain.Dv.sec
  simp only [Option.getD_none]
  rw [hh, hl]
  rfl
/-- power that fails where one sector is loose: it has what it had, or what was written there, or what that turned to -/
theorem boot_one {d : Dv} {p : Nat} {s : List UInt8} (hp : p < d.n) (h : d.wr = upd (fun _ => none) p (some s)) (keep : List Bool) (u : Hu) :
    (∀ j, j ≠ p → (d.boot keep [u]).sec j = d.kept j) ∧ ((d.boot keep [u]).sec p = d.kept p ∨ (d.boot keep [u]).sec p = s ∨ (d.boot keep [u]).sec p = Plain.turn s u.at_ u.bits) := by
  have hl : d.loose = [p] := by
    unfold Plain.Dv.loose
    have e : (fun i => (d.wr i).isSome) = fun i => decide (i = p) := by
      funext i
      rw [h]
      unfold upd
      by_cases hi : i = p <;> simp [hi]
    rw [e]
    clear e h
    generalize hq : d.n = n at hp
    clear hq
    induction n with
    | zero => omega
    | succ n ih =>
      rw [List.range_succ, List.filter_append]
      by_cases hpn : p < n
      · rw [ih hpn]
        simp
        omega
      · obtain rfl : p = n := by omega
        have e0 : (List.range p).filter (fun i => decide (i = p)) = [] := by
          rw [List.filter_eq_nil_iff]
          intro i hi
          rw [List.mem_range] at hi
          simp
          omega
        rw [e0]
        simp
  have hs : d.sec p = s := by unfold Plain.Dv.sec; rw [h]; unfold upd; simp
  have hb : d.bk keep 1 = if keep.getD 0 false = true then upd d.kept p s else d.kept := by
    rw [Plain.Dv.bk_succ, hl]
    by_cases hk : keep.getD 0 false = true
    · rw [if_pos ⟨by simp, hk⟩, if_pos hk]
      show upd (d.bk keep 0) p (d.sec p) = _
      rw [hs]; rfl
    · rw [if_neg (fun h => hk h.2), if_neg hk]; rfl
  have key : ∀ j, (d.boot keep [u]).sec j = d.hurt1 keep (d.bk keep 1) u j := by
    intro j
    unfold Plain.Dv.boot
    show (([u].foldl (d.hurt1 keep) (d.bk keep d.loose.length)) j) = _
    rw [hl]
    rfl
  rw [key p]
  have k2 : ∀ j, j ≠ p → (d.boot keep [u]).sec j = d.hurt1 keep (d.bk keep 1) u j := fun j _ => key j
  have hu : ∀ K : Nat → List UInt8, d.hurt1 keep K u = K ∨ d.hurt1 keep K u = upd K p (Plain.turn (K p) u.at_ u.bits) ∧ keep.getD 0 false = true := by
    intro K
    unfold Plain.Dv.hurt1
    split
    · rename_i hh
      unfold Plain.Dv.hits at hh
      rw [hl, Bool.and_eq_true, decide_eq_true_eq] at hh
      have hz : u.which.toNat = 0 := by have := hh.1; simp at this; omega
      rw [hz] at hh
      rw [hl, hz]
      exact .inr ⟨rfl, hh.2⟩
    · exact .inl rfl
  rcases hu (d.bk keep 1) with e | ⟨e, hk⟩
  · rw [e, hb]
    refine ⟨fun j hj => ?_, ?_⟩
    · rw [k2 j hj, e, hb]
      split
      · exact Plain.upd_ne _ _ hj
      · rfl
    · split
      · exact .inr (.inl (Plain.upd_same _ _ _))
      · exact .inl rfl
  · rw [e, hb, if_pos hk]
    refine ⟨fun j hj => ?_, .inr (.inr ?_)⟩
    · rw [k2 j hj, e, hb, if_pos hk, Plain.upd_ne _ _ hj, Plain.upd_ne _ _ hj]
    · rw [Plain.upd_same, Plain.upd_same]
theorem boot_up (d : Dv) (keep : List Bool) (hurt : List Hu) : (d.boot keep hurt).down = false ∧ (d.boot keep hurt).n = d.n := ⟨rfl, rfl⟩

/-- P10.2, P10.3 -/
theorem swaps {old t : Tb.T} (ho : Tb.right old = true) (hg : t.gen = old.gen + 1) {d : Dv} (hd : Plain.Free d) (hn : 2 ≤ d.n) (hw : ∀ i, d.wr i = none) (h0 : d.kept (slot old.gen) = Tb.put old) (h1 : Tb.ok (d.kept (slot t.gen)) = false)
    (c : Nat) (keep : List Bool) (u : Hu) (hu1 : 40 ≤ u.at_) (hu2 : u.at_ ≤ 480) (hu3 : u.bits < 4294967296) :
    ∃ x, load ((save (d.cutAt c) t).1.boot keep [u]) = (x, true, 0) ∧ ((save (d.cutAt c) t).2 = 0 → x = t) ∧ (x = old ∨ x = t) := by
  have hst : slot t.gen = 1 - slot old.gen := by rw [hg]; exact slot_next _
  have hso : 1 - slot t.gen = slot old.gen := by have := slot_lt old.gen; omega
  have hne : slot old.gen ≠ slot t.gen := by have := slot_lt old.gen; omega
  have ec : d.cutAt c = { d with cut := true, left := c } := by unfold Plain.Dv.cutAt; rw [if_pos (by omega)]; simp
  -- the old one is loaded, where its sector is whole and the other one is none
  have ldo : ∀ D : Dv, D.down = false → 2 ≤ D.n → D.sec (slot old.gen) = Tb.put old → Tb.ok (D.sec (slot t.gen)) = false → load D = (old, true, 0) := fun D e1 e2 e3 e4 =>
    load_is e1 e2 ho e3 (by rw [← hst, e4]; intro h; cases h)
  have ldt : ∀ D : Dv, D.down = false → 2 ≤ D.n → Tb.right t = true → D.sec (slot old.gen) = Tb.put old → D.sec (slot t.gen) = Tb.put t → load D = (t, true, 0) := fun D e1 e2 hr e3 e4 =>
    load_is e1 e2 hr e4 (by rw [hso, e3, Tb.got_put ho]; intros; omega)
  cases hr : Tb.right t with
  | false =>
    rw [save_no hr]
    refine ⟨old, ldo _ rfl (by rw [ec]; exact hn) ?_ ?_, (by simp), .inl rfl⟩
    · rw [boot_still (by rw [ec]; exact hw), ec]; exact h0
    · rw [boot_still (by rw [ec]; exact hw), ec]; exact h1
  | true =>
    have hsec : ∀ i, d.sec i = d.kept i := fun i => by unfold Plain.Dv.sec; rw [hw i]; rfl
    rcases Nat.eq_zero_or_pos c with c0 | c0
    · -- at the first thing
      subst c0
      have e1 : (d.cutAt (0 : Nat)).flush = ({ d with cut := true, left := 0, down := true }, 71) := by
        rw [ec]
        unfold Plain.Dv.flush Plain.Dv.begin
        simp [hd.down]
      have e2 : save (d.cutAt (0 : Nat)) t = ({ d with cut := true, left := 0, down := true }, 71) := by
        unfold save
        rw [if_neg (by simp [hr]), e1, if_pos (by simp)]
      rw [e2]
      refine ⟨old, ldo _ rfl hn ?_ ?_, (by simp), .inl rfl⟩
      · exact (boot_still (d := { d with cut := true, left := 0, down := true }) hw keep [u] _).trans h0
      · exact (congrArg Tb.ok (boot_still (d := { d with cut := true, left := 0, down := true }) hw keep [u] _)).trans h1
    · obtain ⟨k, rfl⟩ : ∃ k, c = k + 1 := ⟨c - 1, by omega⟩
      have e1 : (d.cutAt (k + 1 : Nat)).flush = ({ d with cut := true, left := k, done := d.done + 1, kept := d.sec, wr := fun _ => none }, 0) := by
        rw [ec]
        unfold Plain.Dv.flush Plain.Dv.begin
        simp [hd.down]
        rfl
      have hhas : ∀ D : Dv, D.n = d.n → D.has (slot t.gen : Nat) = true := fun D e => (D.has_iff _).2 (by have := slot_lt t.gen; omega)
      rcases Nat.eq_zero_or_pos k with k0 | k0
      · subst k0
        have e2 : Plain.Dv.write { d with cut := true, left := 0, done := d.done + 1, kept := d.sec, wr := fun _ => none } (slot t.gen : Nat) (Tb.put t) = ({ d with cut := true, left := 0, done := d.done + 1, kept := d.sec, wr := fun _ => none, down := true }, 71) := by
          unfold Plain.Dv.write
          rw [hhas { d with cut := true, left := 0, done := d.done + 1, kept := d.sec, wr := fun _ => none } rfl, if_neg (by simp [put_64 hr])]
          unfold Plain.Dv.begin
          simp [hd.down]
        have e3 : save (d.cutAt (0 + 1 : Nat)) t = ({ d with cut := true, left := 0, done := d.done + 1, kept := d.sec, wr := fun _ => none, down := true }, 71) := by
          unfold save
          rw [if_neg (by simp [hr]), e1, if_neg (by simp), e2, if_pos (by simp)]
        rw [e3]
        refine ⟨old, ldo _ rfl hn ?_ ?_, (by simp), .inl rfl⟩
        · rw [boot_still (fun _ => rfl)]; exact (hsec _).trans h0
        · rw [boot_still (fun _ => rfl)]; exact (congrArg Tb.ok (hsec _)).trans h1
      · obtain ⟨m, rfl⟩ : ∃ m, k = m + 1 := ⟨k - 1, by omega⟩
        have e2 : Plain.Dv.write { d with cut := true, left := m + 1, done := d.done + 1, kept := d.sec, wr := fun _ => none } (slot t.gen : Nat) (Tb.put t) = ({ d with cut := true, left := m, done := d.done + 2, kept := d.sec, wr := upd (fun _ => none) (slot t.gen) (some (Tb.put t)) }, 0) := by
          unfold Plain.Dv.write
          rw [hhas { d with cut := true, left := m + 1, done := d.done + 1, kept := d.sec, wr := fun _ => none } rfl, if_neg (by simp [put_64 hr])]
          unfold Plain.Dv.begin
          simp [hd.down]
        rcases Nat.eq_zero_or_pos m with m0 | m0
        · -- it was written, and was not kept for sure
          subst m0
          have e3 : Plain.Dv.flush { d with cut := true, left := 0, done := d.done + 2, kept := d.sec, wr := upd (fun _ => none) (slot t.gen) (some (Tb.put t)) } = ({ d with cut := true, left := 0, done := d.done + 2, kept := d.sec, wr := upd (fun _ => none) (slot t.gen) (some (Tb.put t)), down := true }, 71) := by
            unfold Plain.Dv.flush Plain.Dv.begin
            simp [hd.down]
          have e4 : save (d.cutAt (0 + 1 + 1 : Nat)) t = ({ d with cut := true, left := 0, done := d.done + 2, kept := d.sec, wr := upd (fun _ => none) (slot t.gen) (some (Tb.put t)), down := true }, 71) := by
            unfold save
            rw [if_neg (by simp [hr]), e1, if_neg (by simp), e2, if_neg (by simp), e3]
          rw [e4]
          obtain ⟨b1, b2⟩ := boot_one (d := { d with cut := true, left := 0, done := d.done + 2, kept := d.sec, wr := upd (fun _ => none) (slot t.gen) (some (Tb.put t)), down := true }) (p := slot t.gen) (s := Tb.put t) (by have := slot_lt t.gen; simp only; omega) rfl keep u
          have b3 := (b1 _ hne).trans ((hsec _).trans h0)
          rcases b2 with b2 | b2 | b2
          · exact ⟨old, ldo _ rfl hn b3 (by rw [b2]; exact (congrArg Tb.ok (hsec _)).trans h1), (by simp), .inl rfl⟩
          · exact ⟨t, ldt _ rfl hn hr b3 b2, fun _ => rfl, .inr rfl⟩
          · rcases turn_wrong hr hu1 hu2 hu3 with b4 | b4
            · exact ⟨t, ldt _ rfl hn hr b3 (b2.trans b4), fun _ => rfl, .inr rfl⟩
            · exact ⟨old, ldo _ rfl hn b3 (by rw [b2]; exact b4), (by simp), .inl rfl⟩
        · obtain ⟨l, rfl⟩ : ∃ l, m = l + 1 := ⟨m - 1, by omega⟩
          have e3 : Plain.Dv.flush { d with cut := true, left := l + 1, done := d.done + 2, kept := d.sec, wr := upd (fun _ => none) (slot t.gen) (some (Tb.put t)) } = ({ d with cut := true, left := l, done := d.done + 3, kept := upd d.sec (slot t.gen) (Tb.put t), wr := fun _ => none }, 0) := by
            have e : Plain.Dv.sec { d with cut := true, left := l + 1, done := d.done + 2, kept := d.sec, wr := upd (fun _ => none) (slot t.gen) (some (Tb.put t)) } = upd d.sec (slot t.gen) (Tb.put t) := by
              funext i
              unfold Plain.Dv.sec upd
              simp only
              split <;> rfl
            unfold Plain.Dv.flush
            rw [e]
            unfold Plain.Dv.begin
            simp [hd.down]
          have e4 : save (d.cutAt (l + 1 + 1 + 1 : Nat)) t = ({ d with cut := true, left := l, done := d.done + 3, kept := upd d.sec (slot t.gen) (Tb.put t), wr := fun _ => none }, 0) := by
            unfold save
            rw [if_neg (by simp [hr]), e1, if_neg (by simp), e2, if_neg (by simp), e3]
          rw [e4]
          refine ⟨t, ldt _ rfl hn hr ?_ ?_, fun _ => rfl, .inr rfl⟩
          · rw [boot_still (fun _ => rfl)]
            exact (Plain.upd_ne _ _ hne).trans ((hsec _).trans h0)
          · rw [boot_still (fun _ => rfl)]
            exact Plain.upd_same _ _ _

/-! P10.4 -/
/-- sectors of one byte, from the third on -/
def puts (d : Dv) (l : List UInt8) : Nat → Dv
  | 0 => d
  | k + 1 => ((puts d l k).write ((2 + k : Nat) : Int) (Plain.full (l.getD k 0))).1
theorem puts_all {d : Dv} (h : Plain.Free d) {l : List UInt8} (hl : 2 + l.length ≤ d.n) : ∀ k, k ≤ l.length →
    Plain.Free (puts d l k) ∧ (puts d l k).n = d.n ∧ (∀ j, (puts d l k).sec j = if 2 ≤ j ∧ j < 2 + k then Plain.full (l.getD (j - 2) 0) else d.sec j) ∧ (puts d l k).kept = d.kept ∧ (puts d l k).done ≤ d.done + k
  | 0, _ => ⟨h, rfl, fun j => by rw [if_neg (by omega)]; rfl, rfl, Nat.le_refl _⟩
  | k + 1, hk => by
    obtain ⟨f, hn, hs, hkp, hd⟩ := puts_all h hl k (by omega)
    have hi : 2 + k < (puts d l k).n := by omega
    have hw := f.write (2 + k) (Plain.full (l.getD k 0)) hi (Plain.full_length _)
    refine ⟨f.write_free _ _ hi (Plain.full_length _), ?_, fun j => ?_, ?_, ?_⟩
    · show ((puts d l k).write ((2 + k : Nat) : Int) _).1.n = _
      rw [hw]; exact hn
    · show ((puts d l k).write ((2 + k : Nat) : Int) _).1.sec j = _
      rw [Plain.sec_write f _ _ hi (Plain.full_length _), hs j]
      by_cases hj : j = 2 + k
      · rw [if_pos hj, if_pos (by omega), hj, show 2 + k - 2 = k by omega]
      · rw [if_neg hj]
        by_cases hj2 : 2 ≤ j ∧ j < 2 + k
        · rw [if_pos hj2, if_pos (by omega)]
        · rw [if_neg hj2, if_neg (by omega)]
    · show ((puts d l k).write ((2 + k : Nat) : Int) _).1.kept = _
      rw [hw]; exact hkp
    · show ((puts d l k).write ((2 + k : Nat) : Int) _).1.done ≤ _
      rw [hw]; simp only; omega
theorem boot_nothing (d : Dv) (j : Nat) : (d.boot [] []).sec j = d.kept j := by
  have h := d.bk_stop [] 0 (.inr (Nat.le_refl _)) d.loose.length
  rw [Nat.zero_add] at h
  show (d.bk [] d.loose.length) j = _
  rw [h]
  rfl
theorem barrier {t : Tb.T} (hr : Tb.right t = true) {l more : List UInt8} {n : Nat} (hn : n ≤ 4096) (hn2 : 2 ≤ n) (hl : 2 + l.length ≤ n) (hm : 2 + more.length ≤ n) :
    (∀ i, i < l.length → ((puts (save (puts (Dv.new n) l l.length) t).1 more more.length).boot [] []).sec (2 + i) = Plain.full (l.getD i 0)) ∧
    load ((puts (save (puts (Dv.new n) l l.length) t).1 more more.length).boot [] []) = (t, true, 0) := by
  obtain ⟨f1, n1, s1, -, -⟩ := puts_all (new_free n (by omega) hn) (l := l) hl l.length (Nat.le_refl _)
  have n1' : 2 ≤ (puts (Dv.new n) l l.length).n := by rw [n1]; exact hn2
  have f2 := save_stays f1 n1' hr
  have e2 := save_free f1 n1' hr
  have n2 : (save (puts (Dv.new n) l l.length) t).1.n = n := by rw [save_n, n1]; rfl
  obtain ⟨f3, n3, -, k3, -⟩ := puts_all f2 (l := more) (by rw [n2]; exact hm) more.length (Nat.le_refl _)
  have k2 : ∀ j, (save (puts (Dv.new n) l l.length) t).1.kept j = if j = slot t.gen then Tb.put t else (puts (Dv.new n) l l.length).sec j := fun j => by rw [e2]; rfl
  have key : ∀ j, ((puts (save (puts (Dv.new n) l l.length) t).1 more more.length).boot [] []).sec j = if j = slot t.gen then Tb.put t else (puts (Dv.new n) l l.length).sec j := fun j => by
    rw [boot_nothing, k3, k2]
  refine ⟨fun i hi => ?_, load_is rfl (by show 2 ≤ (puts _ _ _).n; rw [n3, n2]; exact hn2) hr ?_ ?_⟩
  · rw [key, if_neg (by have := slot_lt t.gen; omega), s1, if_pos (by omega), show 2 + i - 2 = i by omega]
  · rw [key, if_pos rfl]
  · rw [key, if_neg (by have := slot_lt t.gen; omega), s1, if_neg (by have := slot_lt t.gen; omega), new_sec, full_wrong]
    intro h; cases h

/-! P10.2: tables that are saved one behind the other -/
structure Gr (d : Dv) (g : Int) (m : Nat) (last ahead : Tb.T) : Prop where
  free : Plain.Free d
  n : d.n = 2
  none : m = 0 → (∀ i, i < 2 → d.sec i = Plain.full 0) ∧ last = Tb.T.zero
  some : 1 ≤ m → Tb.right last = true ∧ last.gen = g - 1 ∧ d.sec (slot last.gen) = Tb.put last
  one : m = 1 → ahead = Tb.T.zero ∧ d.sec (1 - slot last.gen) = Plain.full 0
  more : 2 ≤ m → Tb.right ahead = true ∧ ahead.gen = g - 2 ∧ d.sec (slot ahead.gen) = Tb.put ahead
theorem Gr.zero (g : Int) : Gr (Dv.new 2) g 0 Tb.T.zero Tb.T.zero :=
  ⟨new_free 2 (by omega) (by omega), rfl, fun _ => ⟨fun i _ => rfl, rfl⟩, (fun h => absurd h (by omega)), (fun h => absurd h (by omega)), fun h => absurd h (by omega)⟩
theorem Gr.step {d : Dv} {g : Int} {m : Nat} {last ahead t : Tb.T} (h : Gr d g m last ahead) (hr : Tb.right t = true) (hg : t.gen = g) : Gr (save d t).1 (g + 1) (m + 1) t last := by
  have hn : 2 ≤ d.n := by rw [h.n]; omega
  have hs := save_sec h.free hn hr
  have hl := slot_lt t.gen
  refine ⟨save_stays h.free hn hr, (save_n d t).trans h.n, (fun h => absurd h (by omega)), fun _ => ⟨hr, by omega, by rw [hs, if_pos rfl]⟩, fun hm => ?_, fun hm => ?_⟩
  · obtain ⟨h1, h2⟩ := h.none (by omega)
    exact ⟨h2, by rw [hs, if_neg (by omega)]; exact h1 _ (by omega)⟩
  · obtain ⟨h1, h2, h3⟩ := h.some (by omega)
    have hsl : slot t.gen = 1 - slot last.gen := by rw [hg, ← slot_next, h2]; congr 1; omega
    have := slot_lt last.gen
    exact ⟨h1, by omega, by rw [hs, if_neg (by omega)]; exact h3⟩
theorem Gr.ahead_slot {d : Dv} {g : Int} {m : Nat} {last ahead : Tb.T} (h : Gr d g m last ahead) (hm : 2 ≤ m) : slot last.gen = 1 - slot ahead.gen ∧ ahead.gen < last.gen := by
  obtain ⟨_, h2, _⟩ := h.some (by omega)
  obtain ⟨_, h5, _⟩ := h.more hm
  exact ⟨by rw [← slot_next, h2, h5]; congr 1; omega, by omega⟩
theorem Gr.load {d : Dv} {g : Int} {m : Nat} {last ahead : Tb.T} (h : Gr d g m last ahead) (hm : 1 ≤ m) : load d = (last, true, 0) := by
  obtain ⟨h1, h2, h3⟩ := h.some hm
  refine load_is h.free.down (by rw [h.n]; omega) h1 h3 ?_
  rcases (by omega : m = 1 ∨ 2 ≤ m) with h4 | h4
  · rw [(h.one h4).2, full_wrong]
    intro h; cases h
  · obtain ⟨h5, h6, h7⟩ := h.more h4
    obtain ⟨h8, h9⟩ := h.ahead_slot h4
    have := slot_lt ahead.gen
    rw [show 1 - slot last.gen = slot ahead.gen by omega, h7, Tb.got_put h5]
    exact fun _ _ => h9
theorem Gr.lost {d : Dv} {g : Int} {m : Nat} {last ahead : Tb.T} (h : Gr d g m last ahead) (hm : 1 ≤ m) : Su.load (d.write (slot last.gen : Nat) (Plain.full 0)).1 = (ahead, decide (1 < m), 0) := by
  have hi : slot last.gen < d.n := by rw [h.n]; exact slot_lt _
  have f := h.free.write_free _ _ hi (Plain.full_length 0)
  have hs := Plain.sec_write h.free _ _ hi (Plain.full_length 0)
  have hn : 2 ≤ (d.write (slot last.gen : Nat) (Plain.full 0)).1.n := by rw [Plain.Dv.write_n, h.n]; omega
  rcases (by omega : m = 1 ∨ 2 ≤ m) with h4 | h4
  · obtain ⟨h5, h6⟩ := h.one h4
    rw [h5, decide_eq_false (by omega)]
    refine load_none f.down hn fun i hi2 ho => ?_
    rw [hs] at ho
    have e : (if i = slot last.gen then Plain.full 0 else d.sec i) = Plain.full 0 := by
      split
      · rfl
      · have := slot_lt last.gen
        rw [← h6]
        congr 1
        omega
    rw [e, full_wrong] at ho
    cases ho
  · obtain ⟨h5, h6, h7⟩ := h.more h4
    obtain ⟨h8, h9⟩ := h.ahead_slot h4
    have := slot_lt ahead.gen
    rw [decide_eq_true (by omega)]
    refine load_is f.down hn h5 (by rw [hs, if_neg (by omega)]; exact h7) ?_
    rw [hs, if_pos h8.symm, full_wrong]
    intro h; cases h

/-! one table alone, and none -/
theorem load_saved {d : Dv} (h : Plain.Free d) (hn : 2 ≤ d.n) {t : Tb.T} (hr : Tb.right t = true) (ho : Tb.ok (d.sec (1 - slot t.gen)) = false) : load (save d t).1 = (t, true, 0) := by
  have hs := save_sec h hn hr
  have := slot_lt t.gen
  refine load_is (save_stays h hn hr).down (by rw [save_n]; exact hn) hr (by rw [hs, if_pos rfl]) ?_
  rw [hs, if_neg (by omega), ho]
  intro h; cases h
/-- P10.1: a table in another's sector is none -/
theorem none_left {t : Tb.T} (hr : Tb.right t = true) {d : Dv} (hd : d.down = false) (hn : 2 ≤ d.n) (h0 : d.sec (slot t.gen) = Plain.full 0) (h1 : d.sec (1 - slot t.gen) = Tb.put t) : load d = (Tb.T.zero, false, 0) := by
  have := slot_lt t.gen
  refine load_none hd hn fun i hi ho => ?_
  rcases (by omega : i = slot t.gen ∨ i = 1 - slot t.gen) with rfl | rfl
  · rw [h0, full_wrong] at ho; cases ho
  · rw [h1, Tb.got_put hr]; omega
theorem save_small {t : Tb.T} (hr : Tb.right t = true) (hs : slot t.gen = 1) : (save (Dv.new 1) t).2 = 1 := by
  have f := new_free 1 (by omega) (by omega)
  have h1 := f.flush
  have e1 : (Dv.new 1).flush.2 = 0 := by rw [h1]
  have e2 : ((Dv.new 1).flush.1.write (slot t.gen) (Tb.put t)) = ((Dv.new 1).flush.1, 1) := by
    unfold Plain.Dv.write
    rw [if_pos]
    left
    rw [hs]
    have hn : (Dv.new 1).flush.1.n = 1 := Plain.Dv.flush_n _
    unfold Plain.Dv.has
    rw [hn]
    rfl
  unfold save
  rw [if_neg (by simp [hr]), if_neg (by simp [e1]), e2, if_pos (by simp)]
theorem look_right {b : Tb.T × Bool} {i : Nat} {s : List UInt8} (h : b.2 = true → Tb.right b.1 = true) : (look b i s).2 = true → Tb.right (look b i s).1 = true := by
  unfold look
  split
  · rename_i hc
    intro _
    have := (Tb.ok_back hc.1).1
    unfold Tb.got
    rw [if_pos hc.1]
    exact this
  · exact h
/-- what is loaded is right -/
theorem load_right {d : Dv} {t : Tb.T} {e : Nat} (h : load d = (t, true, e)) : Tb.right t = true := by
  unfold load at h
  split at h
  · cases h
  · split at h
    · cases h
    · have h1 := congrArg Prod.fst h
      have h2 := congrArg (fun x => x.2.1) h
      simp only at h1 h2
      rw [← h1]
      exact look_right (look_right (fun h => by cases h)) h2
theorem swaps_new {old t : Tb.T} (ho : Tb.right old = true) (hg : t.gen = old.gen + 1) {d1 d2 d3 : Dv} {E c : Nat} (h1 : (save (Dv.new 4) old).1 = d1) (h2 : d1.cutAt (c : Int) = d2) (h3 : save d2 t = (d3, E)) (keep : List Bool) (u : Hu) (hu1 : 40 ≤ u.at_) (hu2 : u.at_ ≤ 480) (hu3 : u.bits < 4294967296) :
    ∃ x, load (d3.boot keep [u]) = (x, true, 0) ∧ (E = 0 → x = t) ∧ (x = old ∨ x = t) := by
  have f0 := new_free 4 (by omega) (by omega)
  have n0 : 2 ≤ (Dv.new 4).n := by show 2 ≤ 4; omega
  have f1 := save_stays f0 n0 ho
  have e1 := save_free f0 n0 ho
  have n1 := save_n (Dv.new 4) old
  have hk : ∀ i, (save (Dv.new 4) old).1.kept i = if i = slot old.gen then Tb.put old else Plain.full 0 := fun i => by rw [e1]; rfl
  have hw : ∀ i, (save (Dv.new 4) old).1.wr i = none := fun i => by rw [e1]
  rw [h1] at f1 n1 hk hw
  have hs : slot t.gen ≠ slot old.gen := by rw [hg, slot_next]; have := slot_lt old.gen; omega
  have := swaps ho hg f1 (by rw [n1]; exact n0) hw (by rw [hk, if_pos rfl]) (by rw [hk, if_neg hs]; exact full_wrong) c keep u hu1 hu2 hu3
  rw [h2, h3] at this
  exact this
end Go.Proofs.YtehnhjnkbclnlaaGreatDoor.Su
