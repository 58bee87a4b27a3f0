/-
  Layer 16: what the laws want of package pool: its functions answer as the document says, write into blocks of their own alone, and those are off others' (IsP: how a pool lies in memory, whatever that is). Nothing is assumed here.
-/
import Derived.Test.YthcchfhkeghkhaaMath16
import Derived.Test.YthcchfhkeghkhaaLatC
import Derived.Test.YthcchfhkeghkhaaNuC
import Derived.Test.YthcchfhkeghkhaaBatB

namespace Go.Proofs.Ythcchfhkeghkhaa
open Go.RowKit Go.Maps Po
set_option maxRecDepth 100000

/-- 'IsP R w p O most G': at p lies a pool of what is gathered, in the blocks O of its own, off the blocks R -/
structure PoolOk (IsP : List Nat → World → Nat → List Nat → Int → List Plain.Sp → Prop) : Prop where
  keep : ∀ {R S : List Nat} {w w' : World} {p : Nat} {O : List Nat} {most : Int} {G : List Plain.Sp}, IsP R w p O most G → Kept S w w' → (∀ s ∈ S, s ∈ R ∨ w.heap.size ≤ s) → IsP R w' p O most G
  more : ∀ {R S : List Nat} {w : World} {p : Nat} {O : List Nat} {most : Int} {G : List Plain.Sp}, IsP R w p O most G → (∀ s ∈ S, s ∈ R ∨ w.heap.size ≤ s) → IsP S w p O most G
  ok : ∀ {R : List Nat} {w : World} {p : Nat} {O : List Nat} {most : Int} {G : List Plain.Sp}, IsP R w p O most G → Ok most G
  own : ∀ {R : List Nat} {w : World} {p : Nat} {O : List Nat} {most : Int} {G : List Plain.Sp}, IsP R w p O most G → ∀ g ∈ O, g < w.heap.size
  new : ∀ (R : List Nat) (most : Int) (w : World), (∀ s ∈ R, s < w.heap.size) →
    Calls Try.prog 10 #[.int .i64 most] w fun e w' => ∃ p O, e = .returned (.pointer (some ⟨p, 0, none⟩)) ∧ IsP R w' p O most [] ∧ (∀ g ∈ O, w.heap.size ≤ g) ∧ Below w.heap.size w w'
  add : ∀ {R : List Nat} {w : World} {p : Nat} {O : List Nat} {most : Int} {G : List Plain.Sp}, IsP R w p O most G → (∀ s ∈ R, s < w.heap.size) →
    ∀ (A : Option Addr) (n cap : Nat) (l : List Plain.Sp), l.length = n → n ≤ cap → cap ≤ maxLen → Lies w A (flat l) → Off O A (flat l) → Fine l →
    Calls Try.prog 18 #[.pointer (some ⟨p, 0, none⟩), .slice A n cap] w fun e w' => e = .returned (.int .i64 (codes most G l)) ∧ ∃ O', IsP R w' p O' most (put most G l) ∧ Kept O w w' ∧ ∀ g ∈ O', g ∈ O ∨ w.heap.size ≤ g
  take : ∀ {R : List Nat} {w : World} {p : Nat} {O : List Nat} {most : Int} {G : List Plain.Sp}, IsP R w p O most G → (∀ s ∈ R, s < w.heap.size) → ∀ i : Int,
    Calls Try.prog 13 #[.pointer (some ⟨p, 0, none⟩), .int .i64 i] w fun e w' => e = .returned (.bool (decide (i ∈ ids G))) ∧ ∃ O', IsP R w' p O' most (drop G i) ∧ Kept O w w' ∧ ∀ g ∈ O', g ∈ O ∨ w.heap.size ≤ g
  get : ∀ {R : List Nat} {w : World} {p : Nat} {O : List Nat} {most : Int} {G : List Plain.Sp}, IsP R w p O most G → ∀ i : Int,
    Calls Try.prog 15 #[.pointer (some ⟨p, 0, none⟩), .int .i64 i] w fun e w' => ∃ v, e = .returned (.tuple #[v, .bool (decide (i ∈ ids G))]) ∧ w'.ownsRow w.heap.size 45 7 v (Po.part G i).length (flat (Po.part G i)) ∧ Below w.heap.size w w'
  idsK : ∀ {R : List Nat} {w : World} {p : Nat} {O : List Nat} {most : Int} {G : List Plain.Sp}, IsP R w p O most G →
    Calls Try.prog 23 #[.pointer (some ⟨p, 0, none⟩)] w fun e w' => ∃ A cap, e = .returned (.slice A (ids G).length cap) ∧ (ids G).length ≤ cap ∧ cap ≤ maxLen ∧ Lies w' A (nums (ids G)) ∧ (∀ ad, A = some ad → w.heap.size ≤ ad.block) ∧ Below w.heap.size w w'
  many : ∀ {R : List Nat} {w : World} {p : Nat} {O : List Nat} {most : Int} {G : List Plain.Sp}, IsP R w p O most G →
    Calls Try.prog 20 #[.pointer (some ⟨p, 0, none⟩)] w fun e w' => e = .returned (.int .i64 ((ids G).length : Int)) ∧ Below w.heap.size w w'

section
variable {IsP : List Nat → World → Nat → List Nat → Int → List Plain.Sp → Prop} (K : PoolOk IsP) {R O O' : List Nat} {w w' : World} {p : Nat} {most : Int} {G : List Plain.Sp}
include K
theorem PoolOk.below (h : IsP R w p O most G) (k : Below w.heap.size w w') : IsP R w' p O most G := K.keep h (Kept.of k []) (by simp)
/-- another one's step: it wrote into its own blocks -/
theorem PoolOk.beside (h : IsP O w p R most G) (k : Kept O w w') (hO : ∀ g ∈ O', g ∈ O ∨ w.heap.size ≤ g) : IsP O' w' p R most G := by
  have h1 : IsP (O ++ O') w p R most G := K.more h fun s hs => (List.mem_append.1 hs).elim .inl (hO s)
  have h2 : IsP (O ++ O') w' p R most G := K.keep h1 k fun s hs => .inl (List.mem_append_left _ hs)
  exact K.more h2 fun s hs => .inl (List.mem_append_right _ hs)
end
/-- a row of spans that was handed back -/
theorem row_flat {w : World} {B : Nat} {v : Value} {l : List Plain.Sp} (h : w.ownsRow B 45 7 v l.length (flat l)) : ∃ A cap, v = .slice A l.length cap ∧ l.length ≤ cap ∧ cap ≤ maxLen ∧ Lies w A (flat l) ∧ ∀ ad, A = some ad → B ≤ ad.block := by
  rcases h.2 with ⟨rfl, h0⟩ | ⟨g, cap, cur, rfl, hb, hg, h1, h2, h3⟩
  · refine ⟨none, 0, by rw [h0], by omega, Nat.zero_le _, .inl ?_, fun _ e => by cases e⟩
    rw [List.eq_nil_of_length_eq_zero h0]; rfl
  · exact ⟨_, cap, rfl, h1, h2, .inr ⟨_, rfl, (h.lt g rfl).2, h.cells (g := g) rfl⟩, fun ad e => by cases e; exact hb⟩
theorem row_nums16 {w : World} {B : Nat} {v : Value} {l : List Int} (h : w.ownsRow B 2 1 v l.length (nums l)) : ∃ A cap, v = .slice A l.length cap ∧ l.length ≤ cap ∧ cap ≤ maxLen ∧ Lies w A (nums l) ∧ ∀ ad, A = some ad → B ≤ ad.block := by
  rcases h.2 with ⟨rfl, h0⟩ | ⟨g, cap, cur, rfl, hb, hg, h1, h2, h3⟩
  · refine ⟨none, 0, by rw [h0], by omega, Nat.zero_le _, .inl ?_, fun _ e => by cases e⟩
    rw [List.eq_nil_of_length_eq_zero h0]; rfl
  · exact ⟨_, cap, rfl, h1, h2, .inr ⟨_, rfl, (h.lt g rfl).2, h.cells (g := g) rfl⟩, fun ad e => by cases e; exact hb⟩
/-- what lies off some blocks lies off new ones too -/
theorem off_own16 {S S' : List Nat} {w : World} {A : Option Addr} {xs : List Value} (hl : Lies w A xs) (h : Off S A xs) (hS : ∀ s ∈ S', s ∈ S ∨ w.heap.size ≤ s) : Off S' A xs := by
  rcases h with h | h
  · exact .inl h
  · rcases hl with h1 | ⟨ad, e1, hb, -⟩
    · exact .inl h1
    · refine .inr fun ad' e2 hm => ?_
      rw [e1] at e2; injection e2 with e2; subst e2
      rcases hS _ hm with h5 | h5
      · exact h ad e1 h5
      · omega
/-- new memory lies off what was there -/
theorem off_new {S : List Nat} {A : Option Addr} {xs : List Value} {B : Nat} (hS : ∀ s ∈ S, s < B) (hA : ∀ ad, A = some ad → B ≤ ad.block) : Off S A xs := .inr fun ad e hm => by
  have := hS _ hm
  have := hA ad e
  omega
theorem fine_right {l : List Plain.Sp} (h : ∀ x ∈ l, x.right = true) : Fine l := fun x hx => by
  obtain ⟨-, -, -, -, -, -, -, -, -, -, -, h1, h2, h3⟩ := (Plain.Sp.right_iff x).1 (h x hx)
  unfold maxLen
  omega

section
variable {IsP : List Nat → World → Nat → List Nat → Int → List Plain.Sp → Prop} (K : PoolOk IsP) {R O : List Nat} {w : World} {p : Nat} {most : Int} {G : List Plain.Sp}
include K
/-! the same, where what comes of it is known -/
theorem PoolOk.add_as (h : IsP R w p O most G) (hR : ∀ s ∈ R, s < w.heap.size) (A : Option Addr) (n cap : Nat) (l : List Plain.Sp) {c : Int} {G' : List Plain.Sp} (hn : l.length = n) (hc1 : n ≤ cap) (hc2 : cap ≤ maxLen) (hA : Lies w A (flat l)) (ho : Off O A (flat l)) (hF : Fine l) (hc : codes most G l = c) (hg : put most G l = G') :
    Calls Try.prog 18 #[.pointer (some ⟨p, 0, none⟩), .slice A n cap] w fun e w' => e = .returned (.int .i64 c) ∧ ∃ O', IsP R w' p O' most G' ∧ Kept O w w' ∧ ∀ g ∈ O', g ∈ O ∨ w.heap.size ≤ g := by
  subst hc hg; exact K.add h hR A n cap l hn hc1 hc2 hA ho hF
theorem PoolOk.take_as (h : IsP R w p O most G) (hR : ∀ s ∈ R, s < w.heap.size) (i : Int) {b : Bool} {G' : List Plain.Sp} (hb : decide (i ∈ Po.ids G) = b) (hg : drop G i = G') :
    Calls Try.prog 13 #[.pointer (some ⟨p, 0, none⟩), .int .i64 i] w fun e w' => e = .returned (.bool b) ∧ ∃ O', IsP R w' p O' most G' ∧ Kept O w w' ∧ ∀ g ∈ O', g ∈ O ∨ w.heap.size ≤ g := by
  subst hb hg; exact K.take h hR i
theorem PoolOk.get_as (h : IsP R w p O most G) (i : Int) {b : Bool} {d : List Plain.Sp} {n : Nat} (hb : decide (i ∈ Po.ids G) = b) (hp : Po.part G i = d) (hn : d.length = n) :
    Calls Try.prog 15 #[.pointer (some ⟨p, 0, none⟩), .int .i64 i] w fun e w' => ∃ A cap, e = .returned (.tuple #[.slice A n cap, .bool b]) ∧ n ≤ cap ∧ cap ≤ maxLen ∧ Lies w' A (flat d) ∧ (∀ ad, A = some ad → w.heap.size ≤ ad.block) ∧ Below w.heap.size w w' := by
  subst hb hp hn
  refine (K.get h i).mono fun e w' ⟨v, h1, h2, h3⟩ => ?_
  obtain ⟨A, cap, rfl, h4, h5, h6, h7⟩ := row_flat h2
  exact ⟨A, cap, h1, h4, h5, h6, h7, h3⟩
theorem PoolOk.ids_as (h : IsP R w p O most G) {d : List Int} {n : Nat} (hp : Po.ids G = d) (hn : d.length = n) :
    Calls Try.prog 23 #[.pointer (some ⟨p, 0, none⟩)] w fun e w' => ∃ A cap, e = .returned (.slice A n cap) ∧ n ≤ cap ∧ cap ≤ maxLen ∧ Lies w' A (nums d) ∧ (∀ ad, A = some ad → w.heap.size ≤ ad.block) ∧ Below w.heap.size w w' := by
  subst hp hn
  exact K.idsK h
theorem PoolOk.many_as (h : IsP R w p O most G) {n : Int} (hn : ((Po.ids G).length : Int) = n) :
    Calls Try.prog 20 #[.pointer (some ⟨p, 0, none⟩)] w fun e w' => e = .returned (.int .i64 n) ∧ Below w.heap.size w w' := by
  subst hn; exact K.many h
end
end Go.Proofs.Ythcchfhkeghkhaa
