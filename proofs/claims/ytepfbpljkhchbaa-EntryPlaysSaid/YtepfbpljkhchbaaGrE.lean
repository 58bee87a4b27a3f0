/-
  Layer 14: the law's great: what it answers, of any calls. Assumed: that these lie in memory.
-/
import Derived.Test.YtepfbpljkhchbaaOpE

namespace Go.Proofs.Ytepfbpljkhchbaa
open Go.RowKit Go.Maps En
set_option maxRecDepth 100000

theorem flatO_length (l : List Opq) : (flatO l).length = l.length * 20 := flatMap_len opCells 20 opCells_length l
/-- the k-th call's cells, in every later world -/
theorem at_op {w : World} {A : Option Addr} {l : List Opq} (h : Lies w A (flatO l)) (k : Nat) (hk : k < l.length) :
    ∃ ad, A = some ad ∧ ad.block < w.heap.size ∧ ∀ u, Below w.heap.size w u → ∀ j c, (opCells l[k])[j]? = some c → u.cell? ((ad.add (k * 20)).add j) = some c := by
  obtain ⟨ad, rfl, hadb, -⟩ := h.at_ (k := k * 20) (by rw [flatO_length]; omega)
  refine ⟨ad, rfl, hadb, fun u hu j c hc => ?_⟩
  have hj : j < 20 := by
    rcases Nat.lt_or_ge j 20 with h | h
    · exact h
    · rw [List.getElem?_eq_none (by rw [opCells_length]; exact h)] at hc; cases hc
  have hf := flatMap_at opCells 20 opCells_length l k j l[k] (List.getElem?_eq_getElem hk) hj
  rw [hc] at hf
  rw [addr_add]
  rcases h with h | ⟨ad', e, _, hcl⟩
  · unfold flatO at h; rw [h] at hf; simp at hf
  · injection e with e; subst e
    exact (hu.cell (by rw [addr_block]; exact hadb)).trans (hcl _ _ hf)
/-- the same, as the walk spells it, behind the first cell -/
theorem cell_key {w : World} {q : Addr} {f : List Value} (h : ∀ j c, f[j]? = some c → w.cell? (q.add j) = some c) {c0 : Value} (h0 : f[0]? = some c0) {j : Nat} {c : Value} (hj : 0 < j) (hc : f[j]? = some c) : w.cell? ⟨q.block, q.off + j, none⟩ = some c := by
  have := h j c hc
  have c0 := h 0 c0 h0
  obtain ⟨b, o, sp⟩ := q
  cases sp with
  | none => simpa [Addr.add, Nat.ne_of_gt hj] using this
  | some n =>
    simp only [Addr.add, World.cell?] at c0
    split at c0 <;> simp at c0

/-- what great tells -/
def GivesG (w : World) (n : Nat) (l : List Opq) (e : Ending) (w' : World) : Prop := ∃ r : Bool, e = .returned (.bool r) ∧ (r = false → n ≤ 200 ∧ ∀ o ∈ l, o.t.e.sv.length ≤ 9000) ∧ w' = w

set_option maxHeartbeats 8000000 in
theorem great14_any (A : Option Addr) (n cap : Nat) (l : List Opq) (w : World) (hn : l.length = n) (hm : n ≤ maxLen) (hA : Lies w A (flatO l)) (hQ : ∀ o ∈ l, EntIn w o.t) :
    Calls Try.prog 12 #[.slice A n cap] w (GivesG w n l) := by
  have HA := Lib.hid hA
  have HN := Lib.hid hn
  have HQ := Lib.hid hQ
  unfold maxLen at hm
  clear hA hn hQ
  go_enter Try.func12, Try.ntmps12
  go_wp2
  go_loop [3, 4] (fun s t => ∃ (z : Int) (k : Nat), s = .int .i64 z ∧ t = .int .i64 (k : Int) ∧ k ≤ n ∧ 0 ≤ z ∧ z ≤ 40000 ∧ ∀ j (h : j < l.length), j < k → min (l[j].t.e.sv.length : Int) 9000 ≤ z) (fun _ t => n - (intOf t).toNat)
  case atStart => exact ⟨0, 0, rfl, rfl, Nat.zero_le _, by omega, by omega, fun j _ h => by omega⟩
  case round =>
    obtain ⟨z, k, rfl, rfl, hk, hz0, hz1, hall⟩ := hrel
    have HALL := Lib.hid hall
    clear hall
    by_cases hgo : k < n ∧ z < 9000
    · obtain ⟨hkn, hz⟩ := hgo
      have t1 : decide ((k : Int) < (n : Int)) = true := by simpa using hkn
      have t2 : decide (z < 9000) = true := by simpa using hz
      have hkl : k < l.length := by rw [HN.out]; exact hkn
      obtain ⟨ad, rfl, -, hcl⟩ := at_op HA.out k hkl
      have hS := HQ.out l[k] (List.getElem_mem hkl)
      have c10 : w.cell? ⟨(ad.add (k * 20)).block, (ad.add (k * 20)).off + 10, none⟩ = some (.slice l[k].t.A l[k].t.e.sv.length l[k].t.cap) := cell_key (hcl w (Below.refl _ _)) rfl (by omega) rfl
      have HIX := Lib.hid (show (Instr.indexAt 22 (.slice (some ad) n cap) (.int .i64 (k : Int))).run Try.prog w = .ok (.pointer (some (ad.add (k * 20)))) w by go_simp)
      have hix := HIX.out
      have HSV := Lib.hid hS.lies
      have hcp : l[k].t.e.sv.length ≤ maxLen := Nat.le_trans hS.le hS.cap
      unfold maxLen at hcp
      have HST := Lib.hid (show ∀ z' : Int, min (l[k].t.e.sv.length : Int) 9000 + z ≤ z' → ∀ j (h : j < l.length), j < k + 1 → min (l[j].t.e.sv.length : Int) 9000 ≤ z' from fun z' hz' j hj hjk => by
        by_cases e : j = k
        · subst e; omega
        · have := HALL.out j hj (by omega); omega)
      clear hcl hS
      generalize ad.add (k * 20) = p at *
      generalize l[k].t.e.sv = sv at *
      generalize l[k].t.A = sA at *
      generalize l[k].t.cap = sc at *
      obtain ⟨m, hm2⟩ : ∃ m, sv.length = m := ⟨_, rfl⟩
      rw [hm2] at c10 hcp HST
      have HM := Lib.hid hm2
      clear hm2
      go_wp2
      go_loop [3, 5] (fun s t => ∃ (z' : Int) (j : Nat), s = .int .i64 z' ∧ t = .int .i64 (j : Int) ∧ j ≤ m ∧ min (m : Int) 9000 + z ≤ z' ∧ z' ≤ 18001) (fun _ t => m - (intOf t).toNat)
      case atStart => exact ⟨_, 0, rfl, rfl, Nat.zero_le _, by omega, by omega⟩
      case round =>
        obtain ⟨z', j, rfl, rfl, hj, hz3, hz4⟩ := hrel
        have HT := Lib.hid (HST.out z' hz3)
        by_cases hgo : j < m ∧ z' < 9000
        · obtain ⟨hjm, hz'⟩ := hgo
          have t3 : decide ((j : Int) < (m : Int)) = true := by simpa using hjm
          have t4 : decide (z' < 9000) = true := by simpa using hz'
          have hjl : j < sv.length := by rw [HM.out]; exact hjm
          obtain ⟨sd, rfl, -, hcs⟩ := at_text HSV.out j hjl
          have cs := hcs w (Below.refl _ _)
          clear hcs
          have hsz : (0 : Int) ≤ ((str sv[j]).size : Int) := by omega
          generalize str sv[j] = S at *
          go_wp2
          go_round
          case rel => exact ⟨_, j + 1, rfl, by go_num, by omega, by omega, by omega⟩
          case measure => simp [intOf]; omega
        · have hgo' : j < m → ¬ z' < 9000 := fun h1 h2 => hgo ⟨h1, h2⟩
          by_cases h1 : j < m
          · have t3 : decide ((j : Int) < (m : Int)) = true := by simpa using h1
            have t4 : decide (z' < 9000) = false := by simpa using hgo' h1
            go_wp2
            go_round
            case rel => exact ⟨z', k + 1, rfl, by go_num, by omega, by omega, by omega, HT.out⟩
            case measure => simp [intOf]; omega
          · have t3 : decide ((j : Int) < (m : Int)) = false := by simpa using h1
            go_wp2
            go_round
            case rel => exact ⟨z', k + 1, rfl, by go_num, by omega, by omega, by omega, HT.out⟩
            case measure => simp [intOf]; omega
    · have hgo' : k < n → ¬ z < 9000 := fun h1 h2 => hgo ⟨h1, h2⟩
      by_cases h1 : k < n
      · have t1 : decide ((k : Int) < (n : Int)) = true := by simpa using h1
        have t2 : decide (z < 9000) = false := by simpa using hgo' h1
        have t3 : decide ((9000 : Int) ≤ z) = true := by have := hgo' h1; simp; omega
        go_wp2
        go_ret
        exact ⟨true, rfl, (fun h => by cases h), rfl⟩
      · have t1 : decide ((k : Int) < (n : Int)) = false := by simpa using h1
        by_cases h2 : 9000 ≤ z
        · have t3 : decide ((9000 : Int) ≤ z) = true := by simpa using h2
          go_wp2
          go_ret
          exact ⟨true, rfl, (fun h => by cases h), rfl⟩
        · have t3 : decide ((9000 : Int) ≤ z) = false := by simpa using h2
          obtain ⟨r, hr⟩ : ∃ r, decide ((200 : Int) < (n : Int)) = r := ⟨_, rfl⟩
          have HR := Lib.hid hr
          clear hr
          go_wp2
          go_ret
          refine ⟨_, rfl, fun h => ⟨?_, fun o ho => ?_⟩, rfl⟩
          · have h := of_decide_eq_false h
            omega
          · obtain ⟨j, hj, rfl⟩ := List.getElem_of_mem ho
            have := HALL.out j hj (by have := HN.out; omega)
            omega
end Go.Proofs.Ytepfbpljkhchbaa
