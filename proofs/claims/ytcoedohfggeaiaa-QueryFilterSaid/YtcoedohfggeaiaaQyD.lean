/-
  Layer 15: the law's ordered: entries put into the document's index, and told: what it answers, of any entries. Assumed: that these lie in memory. (Made by gen15/qyd.py.)
-/
import Derived.Test.YtcoedohfggeaiaaQyB
import Derived.Test.YtcoedohfggeaiaaGrQ

namespace Go.Proofs.Ytcoedohfggeaiaa
open Go.RowKit Go.Maps En Qy
set_option maxRecDepth 100000

/-- the list after all these Puts -/
def putsQ (l : List E) : List E := l.foldl (fun m e => En.put m e) []
theorem putsQ_snoc (l : List E) (e : E) : putsQ (l ++ [e]) = En.put (putsQ l) e := by simp [putsQ]
theorem putsQ_take (l : List E) (k : Nat) (hk : k < l.length) : putsQ (l.take (k + 1)) = En.put (putsQ (l.take k)) l[k] := by
  rw [List.take_succ_eq_append_getElem hk, putsQ_snoc]
theorem putsQ_ok (l : List E) : Ok (putsQ l) := by
  unfold putsQ
  have : ∀ (l : List E) (m : List E), Ok m → Ok (l.foldl (fun m o => En.put m o) m) := fun l => by
    induction l with
    | nil => exact fun m h => h
    | cons o r ih => exact fun m h => ih _ (h.put o)
  exact this l [] Ok.nil
theorem putsQ_len (l : List E) : (putsQ l).length ≤ l.length := by
  unfold putsQ
  have : ∀ (l : List E) (m : List E), Ok m → (l.foldl (fun m o => En.put m o) m).length ≤ m.length + l.length := fun l => by
    induction l with
    | nil => exact fun m _ => Nat.le_refl _
    | cons o r ih =>
      intro m h
      have h1 := ih _ (h.put o)
      have h2 := len_put h.uq o
      rw [List.foldl_cons, List.length_cons]
      omega
  have h := this l [] Ok.nil
  simpa using h
theorem Ents.of_row {w w0 : World} {v : Value} {M : List E} {ts : List Ent} {n : Nat} (hn : M.length = n) (hf : n ≤ 1000) (h : w.ownsRow w0.heap.size 29 13 v n (flatEn ts)) (ht : ts.map Ent.e = M) (hs : ∀ t ∈ ts, Svs w t.e.sv t.A t.cap) : ∃ A cap, v = .slice A n cap ∧ Ents w A n cap ts := by
  obtain ⟨A, cap, h1, h2, h3, h4, -⟩ := row_form h
  have hl : ts.length = n := by rw [← hn, ← ht, List.length_map]
  refine ⟨A, cap, h1, hl, hf, h2, h3, ?_, hs⟩
  rcases h4 with h4 | h4
  · rw [nil_of_len (l := ts) (by omega)]; exact .inl rfl
  · exact h4

/-- a row that is new, with new services -/
def FreshE (b : Nat) (A : Option Addr) (us : List Ent) : Prop := (∀ ad, A = some ad → b ≤ ad.block) ∧ ∀ t ∈ us, ∀ ad, t.A = some ad → b ≤ ad.block
theorem Ents.keptB {S : List Nat} {w w' : World} {A : Option Addr} {n cap b : Nat} {us : List Ent} (h : Ents w A n cap us) (k : Kept S w w') (hf : FreshE b A us) (hS : ∀ s ∈ S, s < b) : Ents w' A n cap us :=
  ⟨h.len, h.few, h.le, h.cap, h.lies.kept (.inr fun ad e hm => by have := hf.1 ad e; have := hS _ hm; omega) k, fun t ht => (h.svs t ht).kept (.inr fun ad e hm => by have := hf.2 t ht ad e; have := hS _ hm; omega) k⟩

set_option maxHeartbeats 8000000 in
theorem ordered15_any (A : Option Addr) (n cap : Nat) (ts : List Ent) (w : World) (h : Ents w A n cap ts) (h3 : n ≤ 300) :
    Calls Try.prog 18 #[.slice A n cap] w fun e w' => ∃ A' cap' us, e = .returned (.slice A' (putsQ (ts.map Ent.e)).length cap') ∧ Ents w' A' (putsQ (ts.map Ent.e)).length cap' us ∧ us.map Ent.e = putsQ (ts.map Ent.e) ∧ FreshE w.heap.size A' us ∧ Below w.heap.size w w' := by
  obtain ⟨hln, hfew, hle, hcm, hlies, hsv⟩ := h
  unfold maxLen at hcm
  have HLI := Lib.hid hlies
  have HSV := Lib.hid hsv
  obtain ⟨M, hM⟩ : ∃ M, ts.map Ent.e = M := ⟨_, rfl⟩
  rw [hM]
  have HML := Lib.hid (show M.length = n by rw [← hM, List.length_map, hln])
  have HN := Lib.hid hln
  have HM := Lib.hid hM
  obtain ⟨N, hN⟩ : ∃ N, putsQ M = N := ⟨_, rfl⟩
  rw [hN]
  have HNN := Lib.hid hN
  clear hM hln hlies hsv hN
  go_enter Try.func18, Try.ntmps18
  go_wp2_with fail
  refine (rnew14_any [] w (by simp)).mono ?_
  rintro e w1 ⟨r, rfl, hR, hrn, d1⟩
  have HR := Lib.hid hR
  have HRN := Lib.hid hrn
  have HB1 := Lib.hid d1
  clear hR hrn d1
  go_wp2
  go_loopw [4] (fun s4 wr => ∃ k : Nat, s4 = .int .i64 (k : Int) ∧ k ≤ n ∧ IsRef [] wr r (putsQ (M.take k)) ∧ Below w.heap.size w wr) (fun i _ => n - (intOf i).toNat)
  case atStart => exact ⟨0, rfl, Nat.zero_le _, HR.out, HB1.out⟩
  case round =>
    obtain ⟨k, rfl, hk, hI, hbr⟩ := hrel
    have HI := Lib.hid hI
    have HBR := Lib.hid hbr
    clear hI
    by_cases hlt : k < n
    · have hkM : k < M.length := by rw [HML.out]; exact hlt
      have hkt : k < ts.length := by rw [HN.out]; exact hlt
      obtain ⟨ad, rfl, hadb, hc⟩ := at_ent HLI.out k hkt
      have hte : ts[k].e = M[k] := by have := HM.out; subst this; simp
      have HPT := Lib.hid (putsQ_take M k hkM)
      rw [← hte] at HPT
      have hld := run_loadRow wr (ad.add (k * 13)) ts[k] (hc wr hbr)
      have hix := fun (W : World) => show (Instr.indexAt 22 (.slice (some ad) n cap) (.int .i64 (k : Int))).run Try.prog W = .ok (.pointer (some (ad.add (k * 13)))) W by go_simp
      have hs := HSV.out ts[k] (List.getElem_mem hkt)
      have hpl := putsQ_len (M.take k)
      rw [List.length_take, HML.out] at hpl
      clear hc hte
      obtain ⟨x, hx⟩ : ∃ x, ts[k] = x := ⟨_, rfl⟩
      rw [hx] at HPT hld hs
      clear hx
      obtain ⟨sn, hsn⟩ : ∃ sn, x.e.sv.length = sn := ⟨_, rfl⟩
      rw [hsn] at hld
      have HP := Lib.hid (rput14_any HI.out (putsQ_ok _) (by omega) (by simp) x.e x.A sn x.cap hsn (hs.below hbr) (Off.of hs.lies (by simpa using HRN.out)))
      rw [← HPT.out] at HP
      generalize ad.add (k * 13) = q at *
      unfold enA at hld HP
      have HLD := Lib.hid hld
      clear hld hs hsn hpl hbr hkM hkt HI HPT
      go_wp2_with (first | refine wpList_loadW rfl 29 _ rfl _ _ rfl HLD.out ?_)
      refine HP.out.mono ?_
      rintro e w2 ⟨rfl, hI, hk2⟩
      have HI2 := Lib.hid hI
      have HB2 := Lib.hid (Kept.below HBR.out hk2 (by simpa using HRN.out))
      clear hI hk2
      go_wp2
      go_roundw
      case rel => exact ⟨k + 1, by go_num, by omega, HI2.out, HB2.out⟩
      case measure => simp [intOf]; omega
    · obtain rfl : k = n := by omega
      rw [List.take_of_length_le (by rw [HML.out]; omega)] at HI
      have HAL := Lib.hid (rall14_any HI.out)
      have HLN := Lib.hid (show (putsQ M).length ≤ 1000 by have := putsQ_len M; rw [HML.out] at this; omega)
      rw [HNN.out] at HAL HLN
      clear hbr HI
      go_wp2_with fail
      refine HAL.out.mono ?_
      rintro e w2 ⟨v, us, rfl, ho, hus, hsv, d2⟩
      have hb := HBR.out.trans (d2.mono HBR.out.size)
      obtain ⟨A', cap', rfl, hE⟩ := Ents.of_row rfl HLN.out ho hus (fun t ht => (hsv t ht).1)
      obtain ⟨A2, c2, e2, -, -, -, hfr, -⟩ := row_form ho
      injection e2 with e2 e3 e4
      subst e2
      have hFR : FreshE w.heap.size A' us := ⟨fun ad e => Nat.le_trans HBR.out.size (hfr ad e), fun t ht ad e => Nat.le_trans HBR.out.size ((hsv t ht).2 ad e)⟩
      clear hfr e3 e4 ho hsv
      go_wp2
      go_ret
      exact ⟨A', cap', us, rfl, hE, hus, hFR, hb⟩
end Go.Proofs.Ytcoedohfggeaiaa
