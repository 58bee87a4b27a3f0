/-
  Layer 10: what super's functions are to answer (SuperOk), devices and tables side by side in memory, and what the laws need besides. Nothing is assumed but what each theorem says.
-/
import Derived.Test.YtehnhjnkbclnlaaGreatDoorLwA
import Derived.Test.YtehnhjnkbclnlaaGreatDoorRp9
import Derived.Test.YtehnhjnkbclnlaaGreatDoorMath10

namespace Go.Proofs.YtehnhjnkbclnlaaGreatDoor
open Go.RowKit
set_option maxRecDepth 100000

/-- a device, and the program's table -/
structure Fr (w : World) (g : Nat) (d : Plain.Dv) : Prop where
  dev : IsDev w g d
  tab : Tab w
  lt : 0 < g
theorem Tab.kept {w w' : World} {g : Nat} (h : Tab w) (hl : 0 < g) (k : Kept [g, g + 1, g + 2] w w') : Tab w' :=
  ⟨by have := k.size; have := h.1; omega, fun i hi => (World.cell?_of_block (k.block _ h.1 (by simp; omega))).trans (h.2 i hi)⟩
theorem Fr.on {w w' : World} {g : Nat} {d d' : Plain.Dv} (h : Fr w g d) (hd : IsDev w' g d') (k : Kept [g, g + 1, g + 2] w w') : Fr w' g d' := ⟨hd, h.tab.kept h.lt k, h.lt⟩
theorem Fr.below {w w' : World} {g : Nat} {d : Plain.Dv} (h : Fr w g d) (hb : Below w.heap.size w w') : Fr w' g d := ⟨h.dev.below hb, h.tab.below hb (Nat.le_refl _), h.lt⟩
/-- what a device's things leave alone -/
structure Old (w : World) (g : Nat) (A : Option Addr) (xs : List Value) : Prop where
  lies : Lies w A xs
  off : Off [g, g + 1, g + 2] A xs
theorem Old.of {w w' : World} {g : Nat} {A : Option Addr} {xs : List Value} (h : Lies w A xs) (hg : w.heap.size ≤ g) (hb : Below w.heap.size w w') : Old w' g A xs :=
  ⟨h.below hb, Off.of h (by simp; omega)⟩
theorem Old.on {w w' : World} {g : Nat} {A : Option Addr} {xs : List Value} (h : Old w g A xs) (k : Kept [g, g + 1, g + 2] w w') : Old w' g A xs := ⟨h.lies.kept h.off k, h.off⟩
theorem Old.below {w w' : World} {g : Nat} {A : Option Addr} {xs : List Value} (h : Old w g A xs) (hb : Below w.heap.size w w') : Old w' g A xs := ⟨h.lies.below hb, h.off⟩
theorem Old.nil {w : World} {g : Nat} {A : Option Addr} : Old w g A [] := ⟨Lies.nil, .inl rfl⟩
/-- what was made behind the device -/
theorem Old.new {w w' : World} {g : Nat} {A : Option Addr} {xs : List Value} (h : Lies w' A xs) (hf : ∀ ad, A = some ad → w.heap.size ≤ ad.block) (hg : g + 2 < w.heap.size) : Old w' g A xs :=
  ⟨h, .inr fun ad e hm => by have := hf ad e; simp at hm; omega⟩
theorem Old.blk {w : World} {g b : Nat} {cs : Array Value} {t : TypeId} (h : Blk w b cs t) (hb : g + 2 < b) : Old w g (some ⟨b, 0, none⟩) cs.toList :=
  ⟨h.lies, .inr fun ad e hm => by injection e with e; subst e; simp at hm; omega⟩
/-- a table that was handed back, with a word, and an error's number -/
def GivesL (w : World) (x o : Int) (xs : List Tb.Ext) (m : Nat) (b : Bool) (er : Nat) (e : Ending) (w' : World) : Prop :=
  ∃ A c, e = .returned (.tuple #[tabV x o A m c, .bool b, .int .i64 (er : Int)]) ∧ m ≤ c ∧ Lies w' A (flatX xs) ∧ (∀ ad, A = some ad → w.heap.size ≤ ad.block) ∧ Below w.heap.size w w'
structure SuperOk : Prop where
  slot : ∀ (x : Int) (w : World), -9223372036854775808 ≤ x → x ≤ 9223372036854775807 → Calls Tryz.prog 24 #[.int .i64 x] w fun e w' => e = .returned (.int .i64 (Su.slot x : Int)) ∧ Below w.heap.size w w'
  load : ∀ (g : Nat) (d : Plain.Dv) (x o : Int) (xs : List Tb.Ext) (m : Nat) (b : Bool) (er : Nat) (w : World), Fr w g d → Su.load d = (⟨x, o, xs⟩, b, er) → xs.length = m → Calls Tryz.prog 16 #[.pointer (some ⟨g + 2, 0, none⟩)] w (GivesL w x o xs m b er)
  save : ∀ (g : Nat) (d : Plain.Dv) (x o : Int) (A : Option Addr) (cap n : Nat) (xs : List Tb.Ext) (w : World), xs.length = n → n ≤ cap → Old w g A (flatX xs) → d.done < 4611686018427386000 → Fr w g d →
    Calls Tryz.prog 8 #[.pointer (some ⟨g + 2, 0, none⟩), tabV x o A n cap] w fun e w' => e = .returned (.int .i64 ((Su.save d ⟨x, o, xs⟩).2 : Int)) ∧ Fr w' g (Su.save d ⟨x, o, xs⟩).1 ∧ Kept [g, g + 1, g + 2] w w'
theorem Kept.three {w w' : World} {g : Nat} {S : List Nat} (k : Kept S w w') (hS : ∀ i ∈ S, i ∈ [g, g + 1, g + 2]) : Kept [g, g + 1, g + 2] w w' := k.mono hS
theorem fr_new (n : Nat) (w : World) (h1 : 1 ≤ n) (h2 : n ≤ 4096) (hT : Tab w) : Calls Tryz.prog 6 #[.int .i64 (n : Int)] w fun e w' => e = .returned (.pointer (some ⟨w.heap.size + 2, 0, none⟩)) ∧ Fr w' w.heap.size (Plain.Dv.new n) ∧ Below w.heap.size w w' :=
  (newDev_yes n w h1 h2).mono fun _ _ ⟨h, hd, hb⟩ => ⟨h, ⟨hd, hT.below hb (Nat.le_refl _), hT.1⟩, hb⟩
theorem fr_write (g : Nat) (d : Plain.Dv) (i : Int) (A : Option Addr) (cap len : Nat) (bs : List UInt8) (w : World) (hlen : bs.length = len) (hO : Old w g A (cells bs)) (hdone : d.done < 4611686018427387000) (h : Fr w g d) :
    Calls Tryz.prog 14 #[.pointer (some ⟨g + 2, 0, none⟩), .int .i64 i, .slice A len cap] w fun e w' => e = .returned (.int .i64 ((d.write i bs).2 : Int)) ∧ Fr w' g (d.write i bs).1 ∧ Kept [g, g + 1, g + 2] w w' :=
  (write_any w g d i A cap len bs hlen hO.lies hO.off (by omega) h.dev).mono fun _ _ ⟨he, hd, hk⟩ => by
    have k3 := hk.three (g := g) (by simp)
    exact ⟨he, h.on hd k3, k3⟩
theorem fr_boot (g : Nat) (d : Plain.Dv) (keep : List Bool) (hurt : List Plain.Hu) (Ak Ah : Option Addr) (kn kcap hn hcap : Nat) (w : World) (hkn : keep.length = kn) (hhn : hurt.length = hn) (hkm : kn ≤ maxLen) (hhm : hn ≤ maxLen)
    (hk : Old w g Ak (bools keep)) (hh : Old w g Ah (flatH hurt)) (hbits : ∀ h ∈ hurt, h.bits < 4294967296) (h : Fr w g d) :
    Calls Tryz.prog 12 #[.pointer (some ⟨g + 2, 0, none⟩), .slice Ak kn kcap, .slice Ah hn hcap] w fun e w' => e = .returned (.tuple #[]) ∧ Fr w' g (d.boot keep hurt) ∧ Kept [g, g + 1, g + 2] w w' :=
  (boot_any w g d keep hurt Ak Ah kn kcap hn hcap hkn hhn hkm hhm hk.lies hh.lies hk.off hh.off hbits h.dev).mono fun _ _ ⟨he, hd, hk⟩ => ⟨he, h.on hd hk, hk⟩
theorem fr_cut (g : Nat) (d : Plain.Dv) (after : Int) (w : World) (ha : after ≤ 9223372036854775807) (h : Fr w g d) :
    Calls Tryz.prog 10 #[.pointer (some ⟨g + 2, 0, none⟩), .int .i64 after] w fun e w' => e = .returned (.tuple #[]) ∧ Fr w' g (d.cutAt after) ∧ Kept [g, g + 1, g + 2] w w' :=
  (cutAt_any w g d after ha h.dev).mono fun _ _ ⟨he, hd, hk⟩ => by
    have k3 := hk.three (g := g) (by simp)
    exact ⟨he, h.on hd k3, k3⟩
/-- a sector of 0 -/
theorem made64 : madeCells #[.int .u8 0] 64 = (cells (Plain.full 0)).toArray := by kernel_rfl
theorem make64 (W : World) : (Instr.makeSlice 32 (.int .i64 64) (.int .i64 64)).run Tryz.prog W = .ok (.slice (some ⟨W.heap.size, 0, none⟩) 64 64) (W.alloc (.cells (cells (Plain.full 0)).toArray 5)) := by
  obtain ⟨i0, hi, hz0, hz1, hz2⟩ := info_parts infoU8
  have := run_make (P := Tryz.prog) W 32 5 i0 _ Tryz.underlying32 hi hz0 .i64 .i64 64 64 (by omega) (by omega) (by rw [hz2]; omega) (by omega)
  rw [hz1] at this
  rw [← made64]
  simpa [Value.cells] using this
theorem late_call2 {P : Program} {W : World} {a : Act} {o : Oper} {x y : Operand} {f : FuncId} {ats : Array TypeId} {vx vy : Value} {R : Ending → World → Prop} {K : Act → World → Prop} {Q : Exit → Act → World → Prop}
    (ho : o.op = .call { callee := .value (.func f), args := #[x, y], argTypes := ats }) (hx : a.eval x = vx) (hy : a.eval y = vy) (hfn : (P.funcs[f]?).map (fun fn => (fn.name == "runtime.NumGoroutine", fn.body.isNone)) = some (false, false))
    (hc : Calls P f #[vx, vy] W R) (hK : ∀ e w', R e w' → ∃ v, e = .returned v ∧ K (a.put o.dst v) w') : o.wp P a W K Q := by
  unfold Oper.wp
  have key : ∀ ρ : Operand → Value, ρ x = vx → ρ y = vy → ρ (.func f) = .func (.func f) #[] #[] → (execOp ρ o).run P W = .ok (.enter f #[vx, vy]) W := fun ρ hx hy hf => by
    simp [execOp, ho, resolve, invoke, hf, hx, hy, Deferred.ofValue, go_sem, enters hfn]
  rw [key a.eval hx hy rfl]
  exact hc.mono fun e w' hR => by
    obtain ⟨v, rfl, hv⟩ := hK e w' hR
    exact hv
/-- a device that was just made -/
def Fact.devAt (B : Nat) (d : Plain.Dv) : Fact := ⟨fun v w => ∃ g, v = .pointer (some ⟨g + 2, 0, none⟩) ∧ B ≤ g ∧ Fr w g d, fun _ _ _ ⟨g, e, hB, h⟩ hb => ⟨g, e, hB, h.below hb⟩⟩
theorem rput_is (x o : Int) (A : Option Addr) (cap n : Nat) (xs : List Tb.Ext) (L : Nat) (w : World) (hn : xs.length = n) (hA : Lies w A (flatX xs)) (hL : (Tb.put ⟨x, o, xs⟩).length = L) :
    Calls Tryz.prog 35 #[tabV x o A n cap] w fun e w' => ∃ A' c, e = .returned (.slice A' L c) ∧ L ≤ c ∧ Lies w' A' (cells (Tb.put ⟨x, o, xs⟩)) ∧ (∀ ad, A' = some ad → w.heap.size ≤ ad.block) ∧ Below w.heap.size w w' := by
  subst hL
  refine (rtput_any x o A cap n xs w hn hA).mono ?_
  rintro e w' ⟨v, rfl, ho, hb⟩
  obtain ⟨A', c, rfl, hc, -, -, hl⟩ := own_form ho
  exact ⟨A', c, rfl, hc, hl, own_fresh ho, hb⟩
theorem zero_old {W : World} {q b : Nat} {zz : List UInt8} (hb : W.heap.size = b) (hq : q + 2 < b) : Old (W.alloc (.cells (cells zz).toArray 5)) q (some ⟨b, 0, none⟩) (cells zz) := by
  subst hb
  exact Old.blk (Blk.new W (cells zz).toArray 5) hq
end Go.Proofs.YtehnhjnkbclnlaaGreatDoor
