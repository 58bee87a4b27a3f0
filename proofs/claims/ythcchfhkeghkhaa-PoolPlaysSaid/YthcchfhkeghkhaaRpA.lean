/-
  Layer 16, the document's answer: how its pool lies in memory (rows of spans, in a row); New, Many, at, Ids, Get: what they answer, of any pool. Nothing is assumed but that it lies so.
-/
import Derived.Test.YthcchfhkeghkhaaMath16
import Derived.Test.YthcchfhkeghkhaaLatC
import Derived.Test.YthcchfhkeghkhaaNuC
import Derived.Test.YthcchfhkeghkhaaBatB
import Derived.Test.YthcchfhkeghkhaaTrA
import Derived.BigQuiet

namespace Go.Proofs.Ythcchfhkeghkhaa
open Go.RowKit Go.Maps Po
set_option maxRecDepth 100000

/-- a trace in a pool: where its spans lie -/
structure Tr where
  ts : List Plain.Sp
  A : Option Addr
  cap : Nat
instance : Inhabited Tr := ⟨⟨[], none, 0⟩⟩
def trV (r : Tr) : Value := .slice r.A r.ts.length r.cap
def flatT (rs : List Tr) : List Value := rs.map trV
theorem flatT_length (rs : List Tr) : (flatT rs).length = rs.length := List.length_map _
theorem flatT_append (a b : List Tr) : flatT (a ++ b) = flatT a ++ flatT b := List.map_append
theorem flatT_one (rs : List Tr) : ∀ u ∈ flatT rs, u.oneCell' = true := by
  intro u hu
  obtain ⟨r, -, rfl⟩ := List.mem_map.1 hu
  rfl
theorem at_tr {w : World} {A : Option Addr} {rs : List Tr} (h : Lies w A (flatT rs)) (k : Nat) (hk : k < rs.length) :
    ∃ ad, A = some ad ∧ ad.block < w.heap.size ∧ ∀ u, Below w.heap.size w u → u.cell? (ad.add k) = some (.slice rs[k].A rs[k].ts.length rs[k].cap) := by
  obtain ⟨ad, rfl, hadb, hc⟩ := h.at_ (k := k) (by rw [flatT_length]; exact hk)
  refine ⟨ad, rfl, hadb, fun u hu => (hu.cell (by rw [addr_block]; exact hadb)).trans ?_⟩
  rw [hc]
  simp [flatT, trV]
/-- what lies off some blocks lies off new ones too -/
theorem Off.fresh16 {S S' : List Nat} {w : World} {A : Option Addr} {xs : List Value} (hl : Lies w A xs) (h : Off S A xs) (hS : ∀ s ∈ S', s ∈ S ∨ w.heap.size ≤ s) : Off S' A xs := by
  rcases h with h | h
  · exact .inl h
  · rcases hl with h1 | ⟨ad, e1, hb, -⟩
    · exact .inl h1
    · refine .inr fun ad' e2 hm => ?_
      rw [e1] at e2; injection e2 with e2; subst e2
      rcases hS _ hm with h5 | h5
      · exact h ad e1 h5
      · omega
/-- the traces' spans are there, off some blocks -/
structure TrIn (S : List Nat) (w : World) (r : Tr) : Prop where
  le : r.ts.length ≤ r.cap
  cap : r.cap ≤ maxLen
  few : r.ts.length ≤ 64
  lies : Lies w r.A (flat r.ts)
  off : Off S r.A (flat r.ts)
theorem TrIn.kept {S S' : List Nat} {w w' : World} {r : Tr} (h : TrIn S w r) (k : Kept S' w w') (hS : ∀ s ∈ S', s ∈ S ∨ w.heap.size ≤ s) : TrIn S w' r :=
  ⟨h.le, h.cap, h.few, h.lies.kept (Off.fresh16 h.lies h.off hS) k, h.off⟩
theorem TrIn.below {S : List Nat} {w w' : World} {r : Tr} (h : TrIn S w r) (k : Below w.heap.size w w') : TrIn S w' r := h.kept (Kept.of k []) (by simp)
theorem TrIn.more {S S' : List Nat} {w : World} {r : Tr} (h : TrIn S w r) (hS : ∀ s ∈ S', s ∈ S ∨ w.heap.size ≤ s) : TrIn S' w r := ⟨h.le, h.cap, h.few, h.lies, Off.fresh16 h.lies h.off hS⟩
/-- rows of spans that read as all traces of what is gathered, off some blocks -/
structure RowsP (S : List Nat) (w : World) (A : Option Addr) (n cap : Nat) (G : List Plain.Sp) : Prop where
  le : n ≤ cap
  cap : cap ≤ maxLen
  ex : ∃ rs : List Tr, rs.length = n ∧ rs.map Tr.ts = rows G ∧ Lies w A (flatT rs) ∧ Off S A (flatT rs) ∧ ∀ r ∈ rs, TrIn S w r
theorem RowsP.len {S : List Nat} {w : World} {A : Option Addr} {n cap : Nat} {G : List Plain.Sp} (h : RowsP S w A n cap G) : n = (ids G).length := by
  obtain ⟨rs, h1, h2, -⟩ := h.ex
  rw [← rows_len, ← h2, List.length_map, h1]
theorem RowsP.kept {S S' : List Nat} {w w' : World} {A : Option Addr} {n cap : Nat} {G : List Plain.Sp} (h : RowsP S w A n cap G) (k : Kept S' w w') (hS : ∀ s ∈ S', s ∈ S ∨ w.heap.size ≤ s) : RowsP S w' A n cap G := by
  obtain ⟨rs, h1, h2, h3, h4, h5⟩ := h.ex
  exact ⟨h.le, h.cap, rs, h1, h2, h3.kept (Off.fresh16 h3 h4 hS) k, h4, fun r hr => (h5 r hr).kept k hS⟩
theorem RowsP.below {S : List Nat} {w w' : World} {A : Option Addr} {n cap : Nat} {G : List Plain.Sp} (h : RowsP S w A n cap G) (k : Below w.heap.size w w') : RowsP S w' A n cap G := h.kept (Kept.of k []) (by simp)
theorem RowsP.more {S S' : List Nat} {w : World} {A : Option Addr} {n cap : Nat} {G : List Plain.Sp} (h : RowsP S w A n cap G) (hS : ∀ s ∈ S', s ∈ S ∨ w.heap.size ≤ s) : RowsP S' w A n cap G := by
  obtain ⟨rs, h1, h2, h3, h4, h5⟩ := h.ex
  exact ⟨h.le, h.cap, rs, h1, h2, h3, Off.fresh16 h3 h4 hS, fun r hr => (h5 r hr).more hS⟩
/-- the k-th trace of rows -/
theorem RowsP.at_ {S : List Nat} {w : World} {A : Option Addr} {n cap : Nat} {G : List Plain.Sp} (h : RowsP S w A n cap G) {k : Nat} (hk : k < n) :
    ∃ (ad : Addr) (r : Tr) (hi : k < (ids G).length), A = some ad ∧ ad.block < w.heap.size ∧ r.ts = Po.part G (ids G)[k] ∧ TrIn S w r ∧ ∀ u, Below w.heap.size w u → u.cell? (ad.add k) = some (.slice r.A r.ts.length r.cap) := by
  obtain ⟨rs, h1, h2, h3, h4, h5⟩ := h.ex
  have hkr : k < rs.length := by omega
  have hi : k < (ids G).length := by rw [← h.len]; exact hk
  obtain ⟨ad, e, hb, hc⟩ := at_tr h3 k hkr
  refine ⟨ad, rs[k], hi, e, hb, ?_, h5 _ (List.getElem_mem hkr), hc⟩
  have : (rs.map Tr.ts)[k]'(by rw [List.length_map]; exact hkr) = (rows G)[k]'(by rw [rows_len]; exact hi) := by simp only [h2]
  rw [List.getElem_map] at this
  rw [this, rows_get]
/-- the first span's number of a trace that is there -/
theorem TrIn.first {S : List Nat} {w : World} {r : Tr} {G : List Plain.Sp} {i : Int} (h : TrIn S w r) (hr : r.ts = Po.part G i) (hi : i ∈ ids G) :
    ∃ ad n, r.A = some ad ∧ r.ts.length = n + 1 ∧ ad.block < w.heap.size ∧ ∀ u, Below w.heap.size w u → u.cell? ad = some (.int .i64 i) := by
  obtain ⟨h1, h2⟩ := part_num hi
  rw [← hr] at h1 h2
  have h0 : 0 < r.ts.length := List.length_pos_iff.2 h1
  obtain ⟨ad, e, hb, hc⟩ := at_span h.lies 0 h0
  refine ⟨ad, r.ts.length - 1, e, by omega, hb, fun u hu => ?_⟩
  have h3 := (hc u hu).1
  have e0 : ad.add (0 * 7) = ad := by simp [Addr.add]
  rw [e0] at h3
  rw [h3]
  congr 2
  rw [← h2]
  unfold num
  obtain ⟨x, l, hx⟩ := List.exists_cons_of_ne_nil h1
  simp [hx]

/-- the document's pool at p, off the blocks S (others write into those) -/
structure IsPR (S : List Nat) (w : World) (p : Nat) (most : Int) (G : List Plain.Sp) : Prop where
  out : p ∉ S
  ok : Ok most G
  row : ∃ (A : Option Addr) (n cap : Nat), Blk w p #[.int .i64 most, .slice A n cap] 58 ∧ RowsP (p :: S) w A n cap G
theorem IsPR.lt {S : List Nat} {w : World} {p : Nat} {most : Int} {G : List Plain.Sp} (h : IsPR S w p most G) : p < w.heap.size := by
  obtain ⟨A, n, cap, hb, -⟩ := h.row
  exact hb.lt
theorem IsPR.keep {S S' : List Nat} {w w' : World} {p : Nat} {most : Int} {G : List Plain.Sp} (h : IsPR S w p most G) (k : Kept S' w w') (hS : ∀ s ∈ S', s ∈ S ∨ w.heap.size ≤ s) : IsPR S w' p most G := by
  obtain ⟨A, n, cap, hb, hr⟩ := h.row
  refine ⟨h.out, h.ok, A, n, cap, k.blk hb (fun hm => ?_), hr.kept k fun s hs => (hS s hs).imp (List.mem_cons_of_mem _) id⟩
  rcases hS p hm with h5 | h5
  · exact h.out h5
  · have := hb.lt; omega
theorem IsPR.below {S : List Nat} {w w' : World} {p : Nat} {most : Int} {G : List Plain.Sp} (h : IsPR S w p most G) (k : Below w.heap.size w w') : IsPR S w' p most G := h.keep (Kept.of k []) (by simp)
theorem IsPR.more {S S' : List Nat} {w : World} {p : Nat} {most : Int} {G : List Plain.Sp} (h : IsPR S w p most G) (hS : ∀ s ∈ S', s ∈ S ∨ w.heap.size ≤ s) : IsPR S' w p most G := by
  obtain ⟨A, n, cap, hb, hr⟩ := h.row
  refine ⟨fun hm => ?_, h.ok, A, n, cap, hb, hr.more fun s hs => ?_⟩
  · rcases hS p hm with h5 | h5
    · exact h.out h5
    · have := hb.lt; omega
  · rcases List.mem_cons.1 hs with rfl | hs
    · exact .inl (List.mem_cons_self ..)
    · exact (hS s hs).imp (List.mem_cons_of_mem _) id

theorem rnew16_any (S : List Nat) (most : Int) (w : World) (hS : ∀ s ∈ S, s < w.heap.size) :
    Calls Try.prog 11 #[.int .i64 most] w fun e w' => ∃ p, e = .returned (.pointer (some ⟨p, 0, none⟩)) ∧ IsPR S w' p most [] ∧ w.heap.size ≤ p ∧ Below w.heap.size w w' := by
  have hb := Blk.new w #[.int .i64 most, .slice none 0 0] 58
  have HI := Lib.hid (show IsPR S (w.alloc (.cells #[.int .i64 most, .slice none 0 0] 58)) w.heap.size most [] from ⟨fun hm => by have := hS _ hm; omega, ok_nil _, none, 0, 0, hb, Nat.le_refl _, by unfold maxLen; omega, [], rfl, rfl, .inl rfl, .inl rfl, fun _ h => by cases h⟩)
  have HB := Lib.hid (show Below w.heap.size w (w.alloc (.cells #[.int .i64 most, .slice none 0 0] 58)) from (Below.refl _ _).alloc (Nat.le_refl _) _)
  clear hb hS
  go_enter Try.func11, Try.ntmps11
  go_wp2
  go_ret
  exact ⟨_, rfl, HI.out, Nat.le_refl _, HB.out⟩

/-- where a trace is -/
def At16 (G : List Plain.Sp) (i v : Int) : Prop := (v = -1 ∧ i ∉ ids G) ∨ ∃ k, ∃ hk : k < (ids G).length, v = (k : Int) ∧ (ids G)[k] = i
set_option maxHeartbeats 2000000 in
theorem rat16_any {S : List Nat} {w : World} {A : Option Addr} {n cap : Nat} {G : List Plain.Sp} (h : RowsP S w A n cap G) (h64 : n ≤ 64) (i : Int) :
    Calls Try.prog 30 #[.slice A n cap, .int .i64 i] w fun e w' => ∃ v, e = .returned (.int .i64 v) ∧ At16 G i v ∧ w' = w := by
  have hle := h.le
  have hcm := h.cap
  unfold maxLen at hcm
  have HR := Lib.hid h
  have HN := Lib.hid h.len
  clear h
  go_enter Try.func30, Try.ntmps30
  go_wp2
  go_loopw [5] (fun s wr => ∃ k : Nat, s = .int .i64 (k : Int) ∧ k ≤ n ∧ wr = w ∧ ∀ j (hj : j < (ids G).length), j < k → (ids G)[j] ≠ i) (fun s _ => n - (intOf s).toNat)
  case atStart => exact ⟨0, rfl, Nat.zero_le _, rfl, fun j _ h => by omega⟩
  case round =>
    obtain ⟨k, rfl, hk, rfl, hno⟩ := hrel
    have HNO := Lib.hid hno
    clear hno
    by_cases hlt : k < n
    · obtain ⟨ad, r, hi, rfl, hadb, hr, hin, hc⟩ := HR.out.at_ hlt
      have c0 := hc wr (Below.refl _ _)
      obtain ⟨ad2, m, h1, h2, h3, h4⟩ := hin.first hr (List.getElem_mem hi)
      have d0 := h4 wr (Below.refl _ _)
      have hcr := hin.cap
      have hle2 := hin.le
      have hf2 := hin.few
      rw [h1, h2] at c0
      rw [h2] at hle2 hf2
      unfold maxLen at hcr
      obtain ⟨rc, hrc⟩ : ∃ rc, r.cap = rc := ⟨_, rfl⟩
      rw [hrc] at c0 hcr hle2
      have HI := Lib.hid hi
      obtain ⟨j, hj⟩ : ∃ j, (ids G)[k]'hi = j := ⟨_, rfl⟩
      rw [hj] at d0
      have HJ := Lib.hid hj
      clear hc hr hin h1 h2 h4 hrc hj
      by_cases hid : j = i
      · have hq : (j == i) = true := by simpa using hid
        have HID := Lib.hid hid
        clear hid
        go_wp2_with fail
        go_ret
        exact ⟨_, rfl, .inr ⟨k, HI.out, rfl, by rw [HJ.out, HID.out]⟩, rfl⟩
      · have hq : (j == i) = false := by simpa using hid
        have HID := Lib.hid hid
        clear hid
        go_wp2_with fail
        go_roundw
        case rel =>
          refine ⟨k + 1, by go_num, by omega, by trivial, fun j' hj' hlt' => ?_⟩
          by_cases e : j' < k
          · exact HNO.out j' hj' e
          · obtain rfl : j' = k := by omega
            rw [HJ.out]; exact HID.out
        case measure => simp [intOf]; omega
    · obtain rfl : k = n := by omega
      go_wp2
      go_ret
      refine ⟨_, rfl, .inl ⟨rfl, fun hm => ?_⟩, rfl⟩
      obtain ⟨j, hj, rfl⟩ := List.getElem_of_mem hm
      exact HNO.out j hj (by have := HN.out; omega) rfl

section
variable {S : List Nat} {w : World} {p : Nat} {most : Int} {G : List Plain.Sp}
theorem rmany16_any (h : IsPR S w p most G) : Calls Try.prog 21 #[.pointer (some ⟨p, 0, none⟩)] w fun e w' => e = .returned (.int .i64 ((ids G).length : Int)) ∧ w' = w := by
  obtain ⟨A, n, cap, hb, hr⟩ := h.row
  have c0 : w.cell? ⟨p, 1, none⟩ = some (.slice A n cap) := hb.cell 1
  have h64 := h.ok.many
  rw [← hr.len] at h64 ⊢
  clear h hb hr
  go_enter Try.func21, Try.ntmps21
  go_wp2
  go_ret
  exact ⟨rfl, rfl⟩

theorem nums_append16 (a b : List Int) : nums (a ++ b) = nums a ++ nums b := by simp [nums]
set_option maxHeartbeats 4000000 in
theorem rids16_any (h : IsPR S w p most G) : Calls Try.prog 24 #[.pointer (some ⟨p, 0, none⟩)] w fun e w' => ∃ v, e = .returned v ∧ w'.ownsRow w.heap.size 2 1 v (ids G).length (nums (ids G)) ∧ Below w.heap.size w w' := by
  obtain ⟨i0, hi, hz0, hz1, hz2⟩ := info_parts infoL
  obtain ⟨A, n, cap, hb, hr⟩ := h.row
  have h64 := h.ok.many
  rw [← hr.len] at h64
  have hle := hr.le
  have hcm := hr.cap
  unfold maxLen at hcm
  have HC := Lib.hid (fun (W : World) (hW : Below w.heap.size w W) => show W.cell? ⟨p, 1, none⟩ = some (.slice A n cap) from ((Kept.of hW []).blk hb (by simp)).cell 1)
  have HR := Lib.hid hr
  have HN := Lib.hid hr.len
  clear h hb hr
  go_enter Try.func24, Try.ntmps24
  go_wp2
  go_loopw [3, 4] (fun s3 s4 wr => ∃ k : Nat, s4 = .int .i64 (k : Int) ∧ k ≤ n ∧ wr.ownsRow w.heap.size 2 1 s3 k (nums ((ids G).take k)) ∧ Below w.heap.size w wr) (fun _ i _ => n - (intOf i).toNat)
  case atStart => exact ⟨0, rfl, Nat.zero_le _, World.ownsRow_nil _ _ _ _, Below.refl _ _⟩
  case round =>
    obtain ⟨k, rfl, hk, hrow, hbr⟩ := hrel
    have HROW := Lib.hid hrow
    have HBR := Lib.hid hbr
    have p0 := HC.out wr hbr
    clear hrow
    by_cases hlt : k < n
    · obtain ⟨ad, r, hii, rfl, hadb, hr, hin, hc⟩ := HR.out.at_ hlt
      have c0 := hc wr hbr
      obtain ⟨ad2, m, h1, h2, h3, h4⟩ := hin.first hr (List.getElem_mem hii)
      have d0 := h4 wr hbr
      have hcr := hin.cap
      have hle2 := hin.le
      have hf2 := hin.few
      rw [h1, h2] at c0
      rw [h2] at hle2 hf2
      unfold maxLen at hcr
      obtain ⟨rc, hrc⟩ : ∃ rc, r.cap = rc := ⟨_, rfl⟩
      rw [hrc] at c0 hcr hle2
      have HTN := Lib.hid (show nums ((ids G).take k) ++ [.int .i64 (ids G)[k]] = nums ((ids G).take (k + 1)) by rw [List.take_succ_eq_append_getElem hii, nums_append16]; rfl)
      obtain ⟨j, hj⟩ : ∃ j, (ids G)[k]'hii = j := ⟨_, rfl⟩
      rw [hj] at d0 HTN
      generalize nums ((ids G).take k) = F0 at *
      clear hc hr hin h1 h2 h4 hrc hii hj
      go_wp2_with (at_builtin; refine wpList_appK rfl _ _ 40 rfl w.heap.size 2 i0 (.int .i64 0) 1 8 Try.underlying40 hi hz0 hz1 hz2 rfl (by decide) _ k F0 rfl ?b1 (some ⟨wr.heap.size, 0, none⟩) 1 1 [.int .i64 j] rfl rfl ?b2 ?b3 ?b4 ?b5 ?b6 ?b7)
      case b1 => exact HROW.out.alloc _
      case b2 => exact Lies.new wr #[.int .i64 j] _
      case b3 => simp [Value.oneCell']
      case b4 => unfold maxLen; omega
      case b5 => omega
      case b6 => have := HBR.out.size; simp; omega
      case b7 =>
        intro v3 w3 hown3 hg3 _
        have HB3 := Lib.hid ((HBR.out.alloc HBR.out.size (.cells #[.int .i64 j] 2)).grown hg3 (Nat.le_trans HBR.out.size (by simp)) (fun g e => by
          rcases HROW.out.2 with ⟨e2, -⟩ | ⟨g', cap, cur, e2, hbg, -⟩
          · rw [e2] at e; cases e
          · rw [e2] at e; injection e with e; rw [← e]; exact hbg))
        rw [HTN.out] at hown3
        have HO3 := Lib.hid hown3
        clear hown3 hg3
        go_wp2
        go_roundw
        case rel => exact ⟨k + 1, by go_num, by omega, HO3.out, HB3.out⟩
        case measure => simp [intOf]; omega
    · obtain rfl : k = n := by omega
      have HRE := Lib.hid (show nums ((ids G).take k) = nums (ids G) by rw [List.take_of_length_le (by rw [← HN.out]; omega)])
      have HB := HBR.out
      go_wp2
      go_ret
      exact ⟨_, rfl, by rw [← HN.out, ← HRE.out]; exact HROW.out, HB⟩
end
end Go.Proofs.Ythcchfhkeghkhaa
