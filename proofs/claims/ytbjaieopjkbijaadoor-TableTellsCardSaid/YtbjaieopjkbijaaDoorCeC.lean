/-
  Layer 8: what cell.Put and cell.Get answer, of any numbers and bytes. Assumed: that the bytes lie in memory, and that the program's table holds what its text lays there.
-/
import Derived.Test.YtbjaieopjkbijaaDoorCeB
import Derived.Stop.BytesEq
import Derived.BigRegion

namespace Go.Proofs.YtbjaieopjkbijaaDoor
open Go.RowKit
set_option maxRecDepth 100000

theorem ne_sec (W : World) (a b : List UInt8) (ha : a.length = 64) (hb : b.length = 64) (B : Bool) (h : (a == b) = !B) : (binOp .neq 71 (secV a) (secV b)).run Tryd.prog W = .ok (.bool B) W := by
  obtain ⟨i, hi, hsz⟩ := Option.map_eq_some_iff.1 sizeU8
  have e := run_equalIn_bytes (P := Tryd.prog) W 9998 71 5 64 Tryd.underlying71 Tryd.underlying5 (fun w => by simp [sizeOf, typeInfo, hi, hsz]) a b ha hb
  have e2 : (Op.equalIn 10000 71 (secV a) (secV b)).run Tryd.prog W = .ok (a == b) W := e
  unfold secV at e2 ⊢
  rw [run_neq_struct, e2, h]
  simp
theorem soft_ne_sec {w : World} {ρ : Operand → Value} {o : Oper} {x y : Operand} {a b : List UInt8} {u : Value} {yt : TypeId} (hx : ρ x = secV a) (hy : ρ y = secV b) (hr : (binOp .neq 71 (secV a) (secV b)).run Tryd.prog w = .ok u w) (ho : o.op = .binOp .neq 71 x y yt) : softUpon Tryd.prog w (Fact.is u) ((execOp ρ o).run Tryd.prog w) := by
  have e : (execOp ρ o).run Tryd.prog w = .ok (.value u) w := by
    have hg := run_eqGuard_agg (P := Tryd.prog) w .neq 71 x y (cells a).toArray (cells b).toArray (by kernel_rfl)
    unfold secV at hx hy hr
    simp [execOp, ho, hx, hy, hg, hr]
  rw [e]
  exact ⟨rfl, Below.refl _ _⟩

/-- what Put hands back: a sector of its own, or nothing -/
def GivesP (w : World) (yes : Prop) (M : List UInt8) (e : Ending) (w' : World) : Prop :=
  Below w.heap.size w w' ∧ ((yes ∧ ∃ g, e = .returned (.slice (some ⟨g, 0, none⟩) 64 64) ∧ w.heap.size ≤ g ∧ Blk w' g (cells M).toArray 71) ∨ (¬ yes ∧ e = .returned (.slice none 0 0)))

theorem put_walk (q p : Int) (A : Option Addr) (cap n : Nat) (bs : List UInt8) (w : World) (hn : bs.length = n) (hA : Lies w A (cells bs)) (hT : Tab w) :
    Calls Tryd.prog 37 #[.int .i64 q, .int .i64 p, .slice A n cap] w (GivesP w (Ce.right q p = true ∧ n ≤ 59) (Ce.put q p bs)) := by
  unfold GivesP
  by_cases hr : Ce.right q p = true
  · by_cases h59 : n ≤ 59
    · obtain ⟨h1, h2, h3, h4⟩ := (Ce.right_iff q p).1 hr
      obtain ⟨qn, rfl⟩ := Int.eq_ofNat_of_zero_le (show 0 ≤ q by omega)
      obtain ⟨pn, rfl⟩ := Int.eq_ofNat_of_zero_le h3
      have HP := Lib.hid (show Ce.put (qn : Int) (pn : Int) bs = Ce.made qn pn bs from Ce.put_yes hr (by omega))
      have HML := Lib.hid (Ce.made_length qn pn bs (by omega))
      have HMD := Lib.hid (made_walk qn pn (by omega) (by omega) A cap n bs w hn h59 hA hT)
      have HRW := Lib.hid (right_walk (qn : Int) (pn : Int) w)
      rw [hr] at HRW
      have HR := Lib.hid hr
      have hdd : decide ((59 : Int) < (n : Int)) = false := by simp; omega
      generalize Ce.made qn pn bs = M at *
      clear hA hT hr hn h1 h2 h3 h4
      go_enter Tryd.func37, Tryd.ntmps37
      go_wp2_with fail
      refine HRW.out.mono ?_
      rintro e w' ⟨rfl, rfl⟩
      go_wp2_with fail
      refine HMD.out.mono ?_
      rintro e w1 ⟨rfl, hB1⟩
      go_wp2_with (first
        | (refine wpList_sec_alloc secC rfl rfl ?_; intro w2 hb2 hB2 hz2)
        | (refine wpList_sec_store secC rfl _ _ rfl w1.heap.size rfl M HML.out rfl (cells zeros64).toArray (by rw [cells_size, zeros64_length]) hb2 ?_; intro w3 hb3 hk3 hz3))
      go_ret
      refine ⟨Kept.below (hB1.trans (hB2.mono hB1.size)) hk3 (by simp [hB1.size]), .inl ⟨⟨HR.out, h59⟩, w1.heap.size, rfl, hB1.size, ?_⟩⟩
      rw [HP.out]
      exact hb3
    · have HRW := Lib.hid (right_walk q p w)
      rw [hr] at HRW
      have hdd : decide ((59 : Int) < (n : Int)) = true := by simp; omega
      clear hA hT hn hr
      go_enter Tryd.func37, Tryd.ntmps37
      go_wp2_with fail
      refine HRW.out.mono ?_
      rintro e w' ⟨rfl, rfl⟩
      go_wp2
      go_ret
      exact ⟨Below.refl _ _, .inr ⟨fun h => h59 h.2, rfl⟩⟩
  · have hr' : Ce.right q p = false := by simpa using hr
    have HRW := Lib.hid (right_walk q p w)
    rw [hr'] at HRW
    clear hA hT hn
    go_enter Tryd.func37, Tryd.ntmps37
    go_wp2_with fail
    refine HRW.out.mono ?_
    rintro e w' ⟨rfl, rfl⟩
    go_wp2
    go_ret
    exact ⟨Below.refl _ _, .inr ⟨fun h => hr h.1, rfl⟩⟩

/-- what Get hands back: bytes of its own, or none -/
def GivesG (w : World) (ok : Bool) (b : List UInt8) (e : Ending) (w' : World) : Prop :=
  Below w.heap.size w w' ∧ ((ok = true ∧ ∃ g k, k = b.length ∧ e = .returned (.tuple #[.slice (some (partAt g k)) k k, .bool true]) ∧ w.heap.size ≤ g ∧ Lies w' (some (partAt g k)) (cells b)) ∨ (ok = false ∧ e = .returned (.tuple #[.slice none 0 0, .bool false])))

theorem cput_yes (q p : Int) (A : Option Addr) (cap n : Nat) (bs : List UInt8) (w : World) (hn : bs.length = n) (hr : Ce.right q p = true) (h59 : n ≤ 59) (hA : Lies w A (cells bs)) (hT : Tab w) :
    Calls Tryd.prog 37 #[.int .i64 q, .int .i64 p, .slice A n cap] w fun e w' => ∃ g, e = .returned (.slice (some ⟨g, 0, none⟩) 64 64) ∧ w.heap.size ≤ g ∧ Blk w' g (cells (Ce.put q p bs)).toArray 71 ∧ Below w.heap.size w w' := by
  refine (put_walk q p A cap n bs w hn hA hT).mono ?_
  rintro e w' ⟨hb, ⟨_, g, h1, h2, h3⟩ | ⟨h, _⟩⟩
  · exact ⟨g, h1, h2, h3, hb⟩
  · exact absurd ⟨hr, h59⟩ h
theorem cput_no (q p : Int) (A : Option Addr) (cap n : Nat) (bs : List UInt8) (w : World) (hn : bs.length = n) (h : ¬ (Ce.right q p = true ∧ n ≤ 59)) (hA : Lies w A (cells bs)) (hT : Tab w) :
    Calls Tryd.prog 37 #[.int .i64 q, .int .i64 p, .slice A n cap] w fun e w' => e = .returned (.slice none 0 0) ∧ Below w.heap.size w w' := by
  refine (put_walk q p A cap n bs w hn hA hT).mono ?_
  rintro e w' ⟨hb, ⟨h', _⟩ | ⟨_, h1⟩⟩
  · exact absurd h' h
  · exact ⟨h1, hb⟩
theorem Blk.liesAll {w : World} {g : Nat} {xs : List UInt8} {t : TypeId} (h : Blk w g (cells xs).toArray t) : Lies w (some ⟨g, 0, none⟩) (cells xs) := by
  have := h.lieAt 0
  rwa [List.drop_zero] at this
theorem right_is (q p : Int) (r : Bool) (h : Ce.right q p = r) (w : World) : Calls Tryd.prog 50 #[.int .i64 q, .int .i64 p] w fun e w' => e = .returned (.bool r) ∧ w = w' := by
  subst h; exact right_walk q p w
/-- string(b), b of its own length -/
theorem conv_at {w : World} {A : Option Addr} {bs : List UInt8} (h : Lies w A (cells bs)) (n c : Nat) (hn : bs.length = n) : (convert 25 9 (.slice A n c)).run Tryd.prog w = .ok (.string (str bs)) w := by
  subst hn
  exact conv_str h 25 5 Tryd.underlying25 Tryd.underlying5 9 Tryd.underlying9
theorem min_at (n k r : Nat) (h : min n k = r) (W : World) : (Builtin.min_ #[3, 3] 3 #[.int .i64 (n : Int), .int .i64 (k : Int)]).run Tryd.prog W = .ok (.int .i64 (r : Int)) W := by
  subst h
  rcases Nat.lt_or_ge k n with h | h
  · have e : min n k = k := by omega
    rw [e]
    have h1 : (k : Int) < (n : Int) := by omega
    simp [Builtin.min_, Builtin.min2, go_sem]
    omega
  · have e : min n k = n := by omega
    rw [e]
    have h1 : ¬ (k : Int) < (n : Int) := by omega
    simp [Builtin.min_, Builtin.min2, go_sem]
    omega

end Go.Proofs.YtbjaieopjkbijaaDoor
