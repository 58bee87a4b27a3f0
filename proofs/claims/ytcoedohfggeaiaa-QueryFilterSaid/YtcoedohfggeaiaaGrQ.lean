/-
  Layer 15: the law's great: what it answers, of any entries. Assumed: that these lie in memory. (Made by gen15/grq.py.)
-/
import Derived.Test.YtcoedohfggeaiaaLwR
import Derived.Test.YtcoedohfggeaiaaOpF

namespace Go.Proofs.Ytcoedohfggeaiaa
open Go.RowKit Go.Maps En
set_option maxRecDepth 100000

/-- what great tells -/
def GivesQ (w : World) (n : Nat) (l : List Ent) (e : Ending) (w' : World) : Prop := ∃ r : Bool, e = .returned (.bool r) ∧ (r = false → n ≤ 300 ∧ ∀ t ∈ l, t.e.sv.length ≤ 9000) ∧ w' = w

set_option maxHeartbeats 8000000 in
theorem great15_any (A : Option Addr) (n cap : Nat) (l : List Ent) (w : World) (hn : l.length = n) (hm : n ≤ maxLen) (hA : Lies w A (flatEn l)) (hQ : ∀ t ∈ l, EntIn w t) :
    Calls Try.prog 10 #[.slice A n cap] w (GivesQ w n l) := by
  have HA := Lib.hid hA
  have HN := Lib.hid hn
  have HQ := Lib.hid hQ
  unfold maxLen at hm
  clear hA hn hQ
  go_enter Try.func10, Try.ntmps10
  go_wp2
  go_loop [3, 4] (fun s t => ∃ (z : Int) (k : Nat), s = .int .i64 z ∧ t = .int .i64 (k : Int) ∧ k ≤ n ∧ 0 ≤ z ∧ (z ≤ (n : Int) ∨ z ≤ 40000) ∧ ∀ j (h : j < l.length), j < k → min (l[j].e.sv.length : Int) 9000 ≤ z) (fun _ t => n - (intOf t).toNat)
  case atStart => exact ⟨n, 0, rfl, rfl, Nat.zero_le _, by omega, .inl (by omega), fun j _ h => by omega⟩
  case round =>
    obtain ⟨z, k, rfl, rfl, hk, hz0, hz1, hall⟩ := hrel
    have HALL := Lib.hid hall
    clear hall
    by_cases hgo : k < n ∧ z < 9000
    · obtain ⟨hkn, hz⟩ := hgo
      have t1 : decide ((k : Int) < (n : Int)) = true := by simpa using hkn
      have t2 : decide (z < 9000) = true := by simpa using hz
      have hkl : k < l.length := by rw [HN.out]; exact hkn
      obtain ⟨ad, rfl, hadb, hcl⟩ := at_ent HA.out k hkl
      have hS := HQ.out l[k] (List.getElem_mem hkl)
      have c9 : w.cell? ⟨(ad.add (k * 13)).block, (ad.add (k * 13)).off + 9, none⟩ = some (.slice l[k].A l[k].e.sv.length l[k].cap) := cell_key (hcl w (Below.refl _ _)) rfl (by omega) rfl
      have HIX := Lib.hid (show (Instr.indexAt 22 (.slice (some ad) n cap) (.int .i64 (k : Int))).run Try.prog w = .ok (.pointer (some (ad.add (k * 13)))) w by go_simp)
      have hix := HIX.out
      have HSV := Lib.hid hS.lies
      have hcp : l[k].e.sv.length ≤ maxLen := Nat.le_trans hS.le hS.cap
      unfold maxLen at hcp
      have HST := Lib.hid (show ∀ z' : Int, min (l[k].e.sv.length : Int) 9000 ≤ z' ∧ z ≤ z' → ∀ j (h : j < l.length), j < k + 1 → min (l[j].e.sv.length : Int) 9000 ≤ z' from fun z' hz' j hj hjk => by
        by_cases e : j = k
        · subst e; omega
        · have := HALL.out j hj (by omega); omega)
      clear hcl hS
      generalize ad.add (k * 13) = p at *
      generalize l[k].e.sv = sv at *
      generalize l[k].A = sA at *
      generalize l[k].cap = sc at *
      obtain ⟨m, hm2⟩ : ∃ m, sv.length = m := ⟨_, rfl⟩
      rw [hm2] at c9 hcp HST
      have HM := Lib.hid hm2
      clear hm2
      go_wp2
      go_loop [3, 5] (fun s t => ∃ (z' : Int) (j : Nat), s = .int .i64 z' ∧ t = .int .i64 (j : Int) ∧ j ≤ m ∧ (j : Int) + z ≤ z' ∧ z' ≤ 18001) (fun _ t => m - (intOf t).toNat)
      case atStart => exact ⟨_, 0, rfl, rfl, Nat.zero_le _, by omega, by omega⟩
      case round =>
        obtain ⟨z', j, rfl, rfl, hj, hz3, hz4⟩ := hrel
        by_cases hgo : j < m ∧ z' < 9000
        · obtain ⟨hjm, hz'⟩ := hgo
          have t3 : decide ((j : Int) < (m : Int)) = true := by simpa using hjm
          have t4 : decide (z' < 9000) = true := by simpa using hz'
          have hjl : j < sv.length := by rw [HM.out]; exact hjm
          obtain ⟨sd, rfl, -, hcs⟩ := at_text HSV.out j hjl
          have cs := hcs w (Below.refl _ _)
          clear hcs
          have hsz : (0 : Int) ≤ ((str sv[j]).size : Int) := by omega
          generalize str sv[j] = S at *
          go_wp2
          go_round
          case rel => exact ⟨_, j + 1, rfl, by go_num, by omega, by omega, by omega⟩
          case measure => simp [intOf]; omega
        · have hgo' : j < m → ¬ z' < 9000 := fun h1 h2 => hgo ⟨h1, h2⟩
          by_cases h1 : j < m
          · have HT := Lib.hid (HST.out z' (by have := hgo' h1; omega))
            have t3 : decide ((j : Int) < (m : Int)) = true := by simpa using h1
            have t4 : decide (z' < 9000) = false := by simpa using hgo' h1
            go_wp2
            go_round
            case rel => exact ⟨z', k + 1, rfl, by go_num, by omega, by omega, .inr (by omega), HT.out⟩
            case measure => simp [intOf]; omega
          · have HT := Lib.hid (HST.out z' (by omega))
            have t3 : decide ((j : Int) < (m : Int)) = false := by simpa using h1
            go_wp2
            go_round
            case rel => exact ⟨z', k + 1, rfl, by go_num, by omega, by omega, .inr (by omega), HT.out⟩
            case measure => simp [intOf]; omega
    · have hgo' : k < n → ¬ z < 9000 := fun h1 h2 => hgo ⟨h1, h2⟩
      by_cases h1 : k < n
      · have t1 : decide ((k : Int) < (n : Int)) = true := by simpa using h1
        have t2 : decide (z < 9000) = false := by simpa using hgo' h1
        have t3 : decide ((9000 : Int) ≤ z) = true := by have := hgo' h1; simp; omega
        go_wp2
        go_ret
        exact ⟨true, rfl, (fun h => by cases h), rfl⟩
      · have t1 : decide ((k : Int) < (n : Int)) = false := by simpa using h1
        by_cases h2 : 9000 ≤ z
        · have t3 : decide ((9000 : Int) ≤ z) = true := by simpa using h2
          go_wp2
          go_ret
          exact ⟨true, rfl, (fun h => by cases h), rfl⟩
        · have t3 : decide ((9000 : Int) ≤ z) = false := by simpa using h2
          obtain ⟨r, hr⟩ : ∃ r, decide ((300 : Int) < (n : Int)) = r := ⟨_, rfl⟩
          have HR := Lib.hid hr
          clear hr
          go_wp2
          go_ret
          refine ⟨_, rfl, fun h => ⟨?_, fun o ho => ?_⟩, rfl⟩
          · have h := of_decide_eq_false h
            omega
          · obtain ⟨j, hj, rfl⟩ := List.getElem_of_mem ho
            have := HALL.out j hj (by have := HN.out; omega)
            omega
end Go.Proofs.Ytcoedohfggeaiaa
