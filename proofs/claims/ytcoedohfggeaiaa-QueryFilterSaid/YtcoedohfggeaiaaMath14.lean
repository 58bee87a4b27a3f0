/-
  Plain mathematics of layer 14, with no program in it: entries, the index of them as a list in its order, what is put, deleted and changed, and what an extent has. Nothing is assumed.
-/
import Derived.Test.YtcoedohfggeaiaaBase

namespace Go.Proofs.Ytcoedohfggeaiaa.En
set_option maxRecDepth 100000

/-- an entry -/
structure E where
  id : Int
  cl : Int
  tick : Int
  cost : Int
  pin : Bool
  bid : Int
  lo : Int
  hi : Int
  many : Int
  sv : List (List UInt8)
  seq : Int
  pl : Int
  sz : Int
deriving DecidableEq
instance : Inhabited E := ⟨⟨0, 0, 0, 0, false, 0, 0, 0, 0, [], 0, 0, 0⟩⟩
def E.zero : E := ⟨0, 0, 0, 0, false, 0, 0, 0, 0, [], 0, 0, 0⟩

/-- which is ahead, of all, and in an extent -/
def lt (a b : E) : Bool := decide (a.tick < b.tick ∨ a.tick = b.tick ∧ a.id < b.id)
def ltP (a b : E) : Bool := decide (a.pl < b.pl ∨ a.pl = b.pl ∧ a.id < b.id)
theorem lt_iff {a b : E} : lt a b = true ↔ (a.tick < b.tick ∨ a.tick = b.tick ∧ a.id < b.id) := by simp [lt]
theorem lt_no {a b : E} : lt a b = false ↔ ¬ (a.tick < b.tick ∨ a.tick = b.tick ∧ a.id < b.id) := by rw [Bool.eq_false_iff, ne_eq, lt_iff]
theorem ltP_iff {a b : E} : ltP a b = true ↔ (a.pl < b.pl ∨ a.pl = b.pl ∧ a.id < b.id) := by simp [ltP]
theorem ltP_no {a b : E} : ltP a b = false ↔ ¬ (a.pl < b.pl ∨ a.pl = b.pl ∧ a.id < b.id) := by rw [Bool.eq_false_iff, ne_eq, ltP_iff]

def Uq (m : List E) : Prop := (m.map E.id).Nodup
/-- the index of all -/
structure Ok (m : List E) : Prop where
  uq : Uq m
  so : m.Pairwise (fun a b => lt a b = true)

theorem Uq.inj {l : List E} (h : Uq l) {x y : E} (hx : x ∈ l) (hy : y ∈ l) (e : x.id = y.id) : x = y := by
  unfold Uq at h
  induction l with
  | nil => cases hx
  | cons a l ih =>
    rw [List.map_cons, List.nodup_cons] at h
    rcases List.mem_cons.1 hx with h1 | h1 <;> rcases List.mem_cons.1 hy with h2 | h2
    · rw [h1, h2]
    · exact absurd (List.mem_map.2 ⟨y, h2, by rw [← e, h1]⟩) h.1
    · exact absurd (List.mem_map.2 ⟨x, h1, by rw [e, h2]⟩) h.1
    · exact ih h.2 h1 h2
theorem Uq.perm {l m : List E} (h : Uq l) (p : m.Perm l) : Uq m := (p.map E.id).nodup_iff.2 h
theorem Uq.sub {l m : List E} (h : Uq l) (p : m.Sublist l) : Uq m := List.Sublist.nodup (p.map E.id) h

def get (m : List E) (i : Int) : Option E := m.find? (fun x => x.id == i)
def del (m : List E) (i : Int) : List E := m.filter (fun x => !(x.id == i))
def ins (e : E) : List E → List E
  | [] => [e]
  | y :: r => if lt y e then y :: ins e r else e :: y :: r
def put (m : List E) (e : E) : List E := ins e (del m e.id)
def upd (m : List E) (i : Int) (f : E → E) : List E := m.map fun x => if x.id = i then f x else x
def insP (e : E) : List E → List E
  | [] => [e]
  | y :: r => if ltP y e then y :: insP e r else e :: y :: r
/-- those of an extent, in their order -/
def row (m : List E) (s : Int) : List E := (m.filter (fun x => x.seq == s)).foldl (fun acc e => insP e acc) []
def inn (m : List E) (s : Int) : List Int := (row m s).map E.id

theorem get_some {m : List E} {i : Int} {e : E} (h : get m i = some e) : e ∈ m ∧ e.id = i := by
  refine ⟨List.mem_of_find?_eq_some h, ?_⟩
  have := List.find?_some h
  simpa using this
theorem get_none {m : List E} {i : Int} : get m i = none ↔ ∀ e ∈ m, e.id ≠ i := by
  unfold get; rw [List.find?_eq_none]; simp
theorem get_of {m : List E} (hu : Uq m) {e : E} (h : e ∈ m) : get m e.id = some e := by
  cases hg : get m e.id with
  | none => exact absurd rfl (get_none.1 hg e h)
  | some x =>
    obtain ⟨h1, h2⟩ := get_some hg
    rw [hu.inj h1 h h2]
theorem get_is {m : List E} (hu : Uq m) {i : Int} {e : E} : get m i = some e ↔ e ∈ m ∧ e.id = i :=
  ⟨get_some, fun ⟨h, h2⟩ => h2 ▸ get_of hu h⟩
theorem get_ext {m m' : List E} (h' : Uq m') (hm : ∀ e, e ∈ m ↔ e ∈ m') (i : Int) : get m i = get m' i := by
  cases hg : get m i with
  | none =>
    symm
    rw [get_none]
    intro e he
    exact get_none.1 hg e ((hm e).2 he)
  | some x =>
    obtain ⟨h1, h2⟩ := get_some hg
    symm
    exact (get_is h').2 ⟨(hm x).1 h1, h2⟩

theorem mem_del {m : List E} {i : Int} {x : E} : x ∈ del m i ↔ x ∈ m ∧ x.id ≠ i := by simp [del]
theorem ins_perm (e : E) (m : List E) : (ins e m).Perm (e :: m) := by
  induction m with
  | nil => exact .refl _
  | cons y r ih =>
    unfold ins
    split
    · exact (List.Perm.cons y ih).trans (.swap _ _ _)
    · exact .refl _
theorem mem_ins {e x : E} {m : List E} : x ∈ ins e m ↔ x = e ∨ x ∈ m := by rw [(ins_perm e m).mem_iff, List.mem_cons]
theorem mem_put {m : List E} {e x : E} : x ∈ put m e ↔ x = e ∨ (x ∈ m ∧ x.id ≠ e.id) := by unfold put; rw [mem_ins, mem_del]
theorem lt_trans {a b c : E} (h1 : lt a b = true) (h2 : lt b c = true) : lt a c = true := by rw [lt_iff] at *; omega
theorem ins_so {e : E} {m : List E} (h : m.Pairwise (fun a b => lt a b = true)) (hn : ∀ x ∈ m, x.id ≠ e.id) : (ins e m).Pairwise (fun a b => lt a b = true) := by
  induction m with
  | nil => simp [ins]
  | cons y r ih =>
    rw [List.pairwise_cons] at h
    unfold ins
    split
    · rename_i hy
      rw [List.pairwise_cons]
      refine ⟨fun x hx => ?_, ih h.2 fun x hx => hn x (List.mem_cons_of_mem _ hx)⟩
      rcases mem_ins.1 hx with rfl | hx
      · exact hy
      · exact h.1 x hx
    · rename_i hy
      have hyn := hn y (List.mem_cons_self ..)
      have hye : lt e y = true := by rw [Bool.not_eq_true, lt_no] at hy; rw [lt_iff]; omega
      rw [List.pairwise_cons, List.pairwise_cons]
      refine ⟨fun x hx => ?_, h⟩
      rcases List.mem_cons.1 hx with rfl | hx
      · exact hye
      · exact lt_trans hye (h.1 x hx)
theorem Ok.nil : Ok [] := ⟨List.nodup_nil, .nil⟩
theorem Ok.del {m : List E} (h : Ok m) (i : Int) : Ok (del m i) := ⟨h.uq.sub List.filter_sublist, h.so.sublist List.filter_sublist⟩
theorem Ok.put {m : List E} (h : Ok m) (e : E) : Ok (put m e) := by
  refine ⟨?_, ins_so (h.del e.id).so fun x hx => (mem_del.1 hx).2⟩
  refine Uq.perm ?_ (ins_perm e _)
  show (List.map E.id (e :: En.del m e.id)).Nodup
  rw [List.map_cons, List.nodup_cons]
  refine ⟨fun hm => ?_, (h.del e.id).uq⟩
  obtain ⟨x, hx, e1⟩ := List.mem_map.1 hm
  exact (mem_del.1 hx).2 e1
theorem upd_ids (m : List E) (i : Int) (f : E → E) (hf : ∀ x, (f x).id = x.id) : (upd m i f).map E.id = m.map E.id := by
  unfold upd
  rw [List.map_map]
  refine List.map_congr_left fun x _ => ?_
  simp only [Function.comp]
  split
  · exact hf x
  · rfl
theorem Ok.upd {m : List E} (h : Ok m) (i : Int) (f : E → E) (hf : ∀ x, (f x).id = x.id) (ht : ∀ x, (f x).tick = x.tick) : Ok (upd m i f) := by
  refine ⟨by unfold Uq; rw [upd_ids m i f hf]; exact h.uq, ?_⟩
  unfold En.upd
  rw [List.pairwise_map]
  refine h.so.imp fun {a b} hab => ?_
  have e : ∀ x : E, (if x.id = i then f x else x).id = x.id ∧ (if x.id = i then f x else x).tick = x.tick := fun x => by
    split
    · exact ⟨hf x, ht x⟩
    · exact ⟨rfl, rfl⟩
  rw [lt_iff] at *
  rw [(e a).1, (e a).2, (e b).1, (e b).2]
  exact hab
theorem get_del {m : List E} (h : Uq m) (i j : Int) : get (del m i) j = if i = j then none else get m j := by
  split
  · rename_i e; subst e
    rw [get_none]; exact fun x hx => (mem_del.1 hx).2
  · rename_i e
    cases hg : get m j with
    | none =>
      rw [get_none] at *
      exact fun x hx => hg x (mem_del.1 hx).1
    | some x =>
      obtain ⟨h1, h2⟩ := get_some hg
      exact (get_is (h.sub List.filter_sublist)).2 ⟨mem_del.2 ⟨h1, fun e2 => e (e2.symm.trans h2)⟩, h2⟩
theorem get_put {m : List E} (h : Ok m) (e : E) (j : Int) : get (put m e) j = if e.id = j then some e else get m j := by
  split
  · rename_i e1; subst e1
    exact get_of (h.put e).uq (mem_put.2 (.inl rfl))
  · rename_i e1
    cases hg : get m j with
    | none =>
      rw [get_none] at *
      intro x hx
      rcases mem_put.1 hx with rfl | hx
      · exact e1
      · exact hg x hx.1
    | some x =>
      obtain ⟨h1, h2⟩ := get_some hg
      exact (get_is (h.put e).uq).2 ⟨mem_put.2 (.inr ⟨h1, fun e2 => e1 (e2.symm.trans h2)⟩), h2⟩
theorem get_upd (m : List E) (i j : Int) (f : E → E) (hf : ∀ x, (f x).id = x.id) : get (upd m i f) j = if i = j then (get m j).map f else get m j := by
  induction m with
  | nil => simp [get, upd]
  | cons x r ih =>
    unfold get upd at *
    rw [List.map_cons, List.find?_cons, List.find?_cons]
    by_cases hx : x.id = i
    · rw [if_pos hx, hf x]
      by_cases hj : x.id = j
      · have hb : (x.id == j) = true := by simpa using hj
        rw [hb, if_pos (hx.symm.trans hj)]
        rfl
      · have hb : (x.id == j) = false := by simpa using hj
        rw [hb]
        exact ih
    · rw [if_neg hx]
      by_cases hj : x.id = j
      · have hb : (x.id == j) = true := by simpa using hj
        rw [hb, if_neg (fun e => hx (hj.trans e.symm))]
      · have hb : (x.id == j) = false := by simpa using hj
        rw [hb]
        exact ih
theorem upd_none {m : List E} {i : Int} (f : E → E) (h : get m i = none) : upd m i f = m := by
  unfold upd
  rw [get_none] at h
  rw [show m = m.map id from (List.map_id m).symm, List.map_map]
  refine List.map_congr_left fun x hx => ?_
  simp only [Function.comp, id]
  rw [if_neg (h x (by simpa using hx))]
theorem del_none {m : List E} {i : Int} (h : get m i = none) : del m i = m := by
  rw [get_none] at h
  unfold del
  rw [List.filter_eq_self]
  intro x hx
  simpa using h x hx
theorem del_put {m : List E} (e : E) : del (put m e) e.id = del m e.id := by
  unfold put
  have h : ∀ l : List E, del (ins e l) e.id = del l e.id := fun l => by
    induction l with
    | nil => simp [ins, del]
    | cons y r ih =>
      unfold ins
      split
      · unfold del at *
        rw [List.filter_cons, List.filter_cons, ih]
      · unfold del
        rw [List.filter_cons]
        simp
  rw [h]
  unfold del
  rw [List.filter_filter]
  simp
theorem upd_upd (m : List E) (i : Int) (f g : E → E) (hf : ∀ x, (f x).id = x.id) : upd (upd m i f) i g = upd m i (fun x => g (f x)) := by
  unfold upd
  rw [List.map_map]
  refine List.map_congr_left fun x _ => ?_
  simp only [Function.comp]
  by_cases h : x.id = i
  · rw [if_pos h, if_pos h, if_pos ((hf x).trans h)]
  · rw [if_neg h, if_neg h, if_neg h]
theorem upd_same {m : List E} (hu : Uq m) {i : Int} {y : E} (hy : get m i = some y) (f : E → E) (hf : f y = y) : upd m i f = m := by
  unfold upd
  rw [show m = m.map id from (List.map_id m).symm, List.map_map]
  refine List.map_congr_left fun x hx => ?_
  simp only [Function.comp, id]
  by_cases h : x.id = i
  · rw [if_pos h]
    obtain ⟨h1, h2⟩ := get_some hy
    rw [hu.inj (by simpa using hx) h1 (h.trans h2.symm), hf]
  · rw [if_neg h]
theorem len_ins (e : E) (m : List E) : (ins e m).length = m.length + 1 := (ins_perm e m).length_eq
theorem len_del {m : List E} (h : Uq m) (i : Int) : (del m i).length + (if (get m i).isSome then 1 else 0) = m.length := by
  induction m with
  | nil => simp [del, get]
  | cons x r ih =>
    have hr : Uq r := h.sub (List.sublist_cons_self ..)
    have ih := ih hr
    unfold del get at *
    rw [List.filter_cons, List.find?_cons]
    by_cases hx : x.id = i
    · have hb : (x.id == i) = true := by simpa using hx
      simp only [hb]
      have hn : get r i = none := get_none.2 fun y hy e => by
        unfold Uq at h
        rw [List.map_cons, List.nodup_cons] at h
        exact h.1 (List.mem_map.2 ⟨y, hy, e.trans hx.symm⟩)
      unfold get at hn
      rw [hn] at ih
      simp at ih ⊢
      simpa using ih
    · have hb : (x.id == i) = false := by simpa using hx
      simp only [hb]
      simp only [Bool.not_false, if_true, List.length_cons]
      omega
theorem len_put {m : List E} (h : Uq m) (e : E) : (put m e).length + (if (get m e.id).isSome then 1 else 0) = m.length + 1 := by
  unfold put
  rw [len_ins]
  have := len_del h e.id
  omega

/-! those of an extent -/
theorem insP_perm (e : E) (m : List E) : (insP e m).Perm (e :: m) := by
  induction m with
  | nil => exact .refl _
  | cons y r ih =>
    unfold insP
    split
    · exact (List.Perm.cons y ih).trans (.swap _ _ _)
    · exact .refl _
theorem ltP_trans {a b c : E} (h1 : ltP a b = true) (h2 : ltP b c = true) : ltP a c = true := by rw [ltP_iff] at *; omega
theorem insP_so {e : E} {m : List E} (h : m.Pairwise (fun a b => ltP a b = true)) (hn : ∀ x ∈ m, x.id ≠ e.id) : (insP e m).Pairwise (fun a b => ltP a b = true) := by
  induction m with
  | nil => simp [insP]
  | cons y r ih =>
    rw [List.pairwise_cons] at h
    unfold insP
    split
    · rename_i hy
      rw [List.pairwise_cons]
      refine ⟨fun x hx => ?_, ih h.2 fun x hx => hn x (List.mem_cons_of_mem _ hx)⟩
      rcases List.mem_cons.1 ((insP_perm e r).mem_iff.1 hx) with rfl | hx
      · exact hy
      · exact h.1 x hx
    · rename_i hy
      have hyn := hn y (List.mem_cons_self ..)
      have hye : ltP e y = true := by rw [Bool.not_eq_true, ltP_no] at hy; rw [ltP_iff]; omega
      rw [List.pairwise_cons, List.pairwise_cons]
      refine ⟨fun x hx => ?_, h⟩
      rcases List.mem_cons.1 hx with rfl | hx
      · exact hye
      · exact ltP_trans hye (h.1 x hx)
theorem foldP_perm (l acc : List E) : (l.foldl (fun acc e => insP e acc) acc).Perm (acc ++ l) := by
  induction l generalizing acc with
  | nil => simp
  | cons x r ih =>
    rw [List.foldl_cons]
    refine (ih _).trans ?_
    refine ((insP_perm x acc).append_right r).trans ?_
    rw [List.cons_append]
    exact List.perm_middle.symm
theorem foldP_so (l acc : List E) (h : acc.Pairwise (fun a b => ltP a b = true)) (hu : Uq (acc ++ l)) : (l.foldl (fun acc e => insP e acc) acc).Pairwise (fun a b => ltP a b = true) := by
  induction l generalizing acc with
  | nil => exact h
  | cons x r ih =>
    rw [List.foldl_cons]
    refine ih _ (insP_so h fun y hy e => ?_) (hu.perm ?_)
    · have hu2 : Uq (x :: acc) := by
        refine (hu.sub (m := acc ++ [x]) ?_).perm (List.perm_append_singleton x acc).symm
        exact List.Sublist.append (.refl _) (List.Sublist.cons_cons x (List.nil_sublist r))
      unfold Uq at hu2
      rw [List.map_cons, List.nodup_cons] at hu2
      exact hu2.1 (List.mem_map.2 ⟨y, hy, e⟩)
    · refine ((insP_perm x acc).append_right r).trans ?_
      rw [List.cons_append]
      exact List.perm_middle.symm
theorem row_perm (m : List E) (s : Int) : (row m s).Perm (m.filter (fun x => x.seq == s)) := by
  have := foldP_perm (m.filter (fun x => x.seq == s)) []
  simpa [row] using this
theorem row_so {m : List E} (h : Uq m) (s : Int) : (row m s).Pairwise (fun a b => ltP a b = true) := foldP_so _ [] .nil (by simpa using h.sub List.filter_sublist)
theorem mem_row {m : List E} {s : Int} {x : E} : x ∈ row m s ↔ x ∈ m ∧ x.seq = s := by rw [(row_perm m s).mem_iff]; simp
theorem row_uq {m : List E} (h : Uq m) (s : Int) : Uq (row m s) := (h.sub List.filter_sublist).perm (row_perm m s)
/-- whatever is sorted so is that -/
theorem uniq {lt' : E → E → Bool} (ha : ∀ a b, lt' a b = false → lt' b a = false → a.id = b.id) {d l : List E} (hu : Uq l) (hp : d.Perm l) (hd : d.Pairwise (fun a b => lt' b a = false)) (hl : l.Pairwise (fun a b => lt' b a = false)) : d = l := by
  refine List.Perm.eq_of_pairwise (le := fun a b => lt' b a = false) ?_ hd hl hp
  intro a b h1 h2 h3 h4
  exact hu.inj (hp.mem_iff.1 h1) h2 (ha a b h4 h3)
theorem lt_anti {a b : E} (h1 : lt a b = false) (h2 : lt b a = false) : a.id = b.id := by rw [lt_no] at *; omega
theorem ltP_anti {a b : E} (h1 : ltP a b = false) (h2 : ltP b a = false) : a.id = b.id := by rw [ltP_no] at *; omega
theorem lt_le {a b : E} (h : lt a b = true) : lt b a = false := by rw [lt_iff] at h; rw [lt_no]; omega
theorem ltP_le {a b : E} (h : ltP a b = true) : ltP b a = false := by rw [ltP_iff] at h; rw [ltP_no]; omega
theorem all_uniq {m d : List E} (h : Ok m) (hp : d.Perm m) (hd : d.Pairwise (fun a b => lt b a = false)) : d = m := uniq (fun _ _ => lt_anti) h.uq hp hd (h.so.imp lt_le)
theorem row_uniq {m d : List E} {s : Int} (h : Uq m) (hp : d.Perm (m.filter (fun x => x.seq == s))) (hd : d.Pairwise (fun a b => ltP b a = false)) : d = row m s :=
  uniq (fun _ _ => ltP_anti) (row_uq h s) (hp.trans (row_perm m s).symm) hd ((row_so h s).imp ltP_le)

/-! what a list does, place by place -/
theorem ins_at {e : E} : ∀ {m : List E} {k : Nat}, k ≤ m.length → (∀ j (h : j < m.length), j < k → lt m[j] e = true) → (∀ h : k < m.length, lt m[k] e = false) → ins e m = m.take k ++ e :: m.drop k
  | [], k, _, _, _ => by simp [ins]
  | y :: r, 0, _, _, h2 => by
    have := h2 (by simp)
    simp only [List.getElem_cons_zero] at this
    simp [ins, this]
  | y :: r, k + 1, hk, h1, h2 => by
    have hy := h1 0 (by simp) (by omega)
    simp only [List.getElem_cons_zero] at hy
    have ih := ins_at (e := e) (m := r) (k := k) (by simpa using hk) (fun j h hj => h1 (j + 1) (Nat.succ_lt_succ h) (by omega)) (fun h => h2 (Nat.succ_lt_succ h))
    simp [ins, hy, ih]
theorem get_at {m : List E} (hu : Uq m) {k : Nat} (hk : k < m.length) : get m m[k].id = some m[k] := get_of hu (List.getElem_mem hk)
theorem del_at {m : List E} (hu : Uq m) {k : Nat} (hk : k < m.length) : del m m[k].id = m.take k ++ m.drop (k + 1) := by
  induction m generalizing k with
  | nil => simp at hk
  | cons x r ih =>
    have hr : Uq r := hu.sub (List.sublist_cons_self ..)
    unfold Uq at hu
    rw [List.map_cons, List.nodup_cons] at hu
    cases k with
    | zero =>
      simp only [List.getElem_cons_zero, List.take_zero, List.nil_append, List.drop_succ_cons, List.drop_zero]
      have : del r x.id = r := del_none (get_none.2 fun y hy e => hu.1 (List.mem_map.2 ⟨y, hy, e⟩))
      unfold del at this ⊢
      rw [List.filter_cons]
      simpa using this
    | succ k =>
      have hk' : k < r.length := by simpa using hk
      simp only [List.getElem_cons_succ, List.take_succ_cons, List.drop_succ_cons, List.cons_append]
      have := ih hr hk'
      unfold del at this ⊢
      rw [List.filter_cons, this]
      have hne : (x.id == (r[k]).id) = false := by
        rw [beq_eq_false_iff_ne]
        intro e
        exact hu.1 (List.mem_map.2 ⟨r[k], List.getElem_mem hk', e.symm⟩)
      simp [hne]
theorem upd_at {m : List E} (hu : Uq m) {k : Nat} (hk : k < m.length) (f : E → E) : upd m m[k].id f = m.set k (f m[k]) := by
  refine List.ext_getElem (by simp [upd]) fun j h1 h2 => ?_
  have hj : j < m.length := by simpa using h2
  have hm : (upd m m[k].id f)[j] = if m[j].id = m[k].id then f m[j] else m[j] := List.getElem_map ..
  rw [hm, List.getElem_set]
  by_cases e : k = j
  · subst e; simp
  · rw [if_neg e, if_neg]
    intro e2
    have hp := List.pairwise_iff_getElem.1 (List.pairwise_map.1 hu)
    rcases Nat.lt_or_gt_of_ne e with h | h
    · exact hp k j hk hj h e2.symm
    · exact hp j k hj hk h e2
theorem insP_at {e : E} : ∀ {m : List E} {k : Nat}, k ≤ m.length → (∀ j (h : j < m.length), j < k → ltP m[j] e = true) → (∀ h : k < m.length, ltP m[k] e = false) → insP e m = m.take k ++ e :: m.drop k
  | [], k, _, _, _ => by simp [insP]
  | y :: r, 0, _, _, h2 => by
    have := h2 (by simp)
    simp only [List.getElem_cons_zero] at this
    simp [insP, this]
  | y :: r, k + 1, hk, h1, h2 => by
    have hy := h1 0 (by simp) (by omega)
    simp only [List.getElem_cons_zero] at hy
    have ih := insP_at (e := e) (m := r) (k := k) (by simpa using hk) (fun j h hj => h1 (j + 1) (Nat.succ_lt_succ h) (by omega)) (fun h => h2 (Nat.succ_lt_succ h))
    simp [insP, hy, ih]
end Go.Proofs.Ytcoedohfggeaiaa.En
