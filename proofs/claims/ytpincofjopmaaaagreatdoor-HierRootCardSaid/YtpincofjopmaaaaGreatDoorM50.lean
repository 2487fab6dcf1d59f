/-
  What is below what, by paths through places of a list; the steps of one pass after the other. Plain mathematics.
  Conditions: as each text of it says.
-/
import Derived.Test.YtpincofjopmaaaaGreatDoorM07
namespace Go.Proofs.YtpincofjopmaaaaGreatDoor
open Go.RowKit
inductive Thru (E : Nat → Nat → Prop) (k : Nat) : Nat → Nat → Prop
  | base {i j : Nat} : E i j → Thru E k i j
  | comp {i m j : Nat} : Thru E k i m → m < k → Thru E k m j → Thru E k i j
inductive Plus (E : Nat → Nat → Prop) : Nat → Nat → Prop
  | base {i j : Nat} : E i j → Plus E i j
  | comp {i m j : Nat} : Plus E i m → Plus E m j → Plus E i j
theorem Thru.split {E : Nat → Nat → Prop} {k i j : Nat} (h : Thru E (k + 1) i j) : Thru E k i j ∨ (Thru E k i k ∧ Thru E k k j) := by
  induction h with
  | base h => exact .inl (.base h)
  | @comp i m j _ hm _ ih1 ih2 =>
    rcases Nat.lt_or_ge m k with h | h
    · rcases ih1 with a | ⟨a, b⟩ <;> rcases ih2 with c | ⟨c, d⟩
      · exact .inl (.comp a h c)
      · exact .inr ⟨.comp a h c, d⟩
      · exact .inr ⟨a, .comp b h c⟩
      · exact .inr ⟨a, d⟩
    · have : m = k := by omega
      subst this
      refine .inr ⟨?_, ?_⟩
      · rcases ih1 with a | ⟨a, _⟩ <;> exact a
      · rcases ih2 with c | ⟨_, c⟩ <;> exact c
theorem Thru.zero {E : Nat → Nat → Prop} {i j : Nat} (h : Thru E 0 i j) : E i j := by
  cases h with
  | base h => exact h
  | comp _ h _ => omega
theorem Plus.thru {E : Nat → Nat → Prop} {n : Nat} (hE : ∀ i j, E i j → j < n) {i j : Nat} (h : Plus E i j) : Thru E n i j ∧ j < n := by
  induction h with
  | base h => exact ⟨.base h, hE _ _ h⟩
  | comp _ _ ih1 ih2 => exact ⟨.comp ih1.1 ih1.2 ih2.1, ih2.2⟩
def updM (M : Nat → Nat → Bool) (i j : Nat) (b : Bool) : Nat → Nat → Bool := fun a c => if a = i ∧ c = j then b else M a c
theorem updM_same (M : Nat → Nat → Bool) (i j : Nat) (b : Bool) : updM M i j b i j = b := by unfold updM; rw [if_pos ⟨rfl, rfl⟩]
structure War (E : Nat → Nat → Prop) (n k i j : Nat) (M : Nat → Nat → Bool) : Prop where
  sound : ∀ a b, a < n → b < n → M a b = true → Plus E a b
  old : ∀ a b, a < n → b < n → Thru E k a b → M a b = true
  rows : ∀ a b, a < i → a < n → b < n → Thru E (k + 1) a b → M a b = true
  cells : ∀ b, b < j → b < n → Thru E (k + 1) i b → M i b = true
theorem War.step {E : Nat → Nat → Prop} {n k i j : Nat} {M : Nat → Nat → Bool} (h : War E n k i j M) (hi : i < n) (hk : k < n) (hj : j < n) : War E n k i (j + 1) (updM M i j (M i j || (M i k && M k j))) := by
  have hup : ∀ a b, M a b = true → updM M i j (M i j || (M i k && M k j)) a b = true := by
    intro a b hab
    unfold updM
    split
    · rename_i e; obtain ⟨rfl, rfl⟩ := e; rw [hab]; rfl
    · exact hab
  refine ⟨fun a b ha hb hab => ?_, fun a b ha hb ht => hup a b (h.old a b ha hb ht), fun a b hai ha hb ht => hup a b (h.rows a b hai ha hb ht), fun b hbj hb ht => ?_⟩
  · unfold updM at hab
    split at hab
    · rename_i e
      obtain ⟨rfl, rfl⟩ := e
      rw [Bool.or_eq_true, Bool.and_eq_true] at hab
      rcases hab with h1 | ⟨h1, h2⟩
      · exact h.sound _ _ ha hb h1
      · exact .comp (h.sound _ _ ha hk h1) (h.sound _ _ hk hb h2)
    · exact h.sound a b ha hb hab
  · rcases Nat.lt_or_ge b j with h1 | h1
    · exact hup i b (h.cells b h1 hb ht)
    · have : b = j := by omega
      subst this
      rw [updM_same, Bool.or_eq_true, Bool.and_eq_true]
      rcases ht.split with h2 | ⟨h2, h3⟩
      · exact .inl (h.old i b hi hb h2)
      · exact .inr ⟨h.old i k hi hk h2, h.old k b hk hb h3⟩
theorem War.row {E : Nat → Nat → Prop} {n k i : Nat} {M : Nat → Nat → Bool} (h : War E n k i n M) : War E n k (i + 1) 0 M :=
  ⟨h.sound, h.old, fun a b hai ha hb ht => by
    rcases Nat.lt_or_ge a i with h1 | h1
    · exact h.rows a b h1 ha hb ht
    · have : a = i := by omega
      subst this
      exact h.cells b hb hb ht, fun b hb => by omega⟩
theorem War.layer {E : Nat → Nat → Prop} {n k : Nat} {M : Nat → Nat → Bool} (h : War E n k n 0 M) : War E n (k + 1) 0 0 M :=
  ⟨h.sound, fun a b ha hb ht => h.rows a b ha ha hb ht, fun a b h0 => by omega, fun b hb => by omega⟩
theorem War.start {E : Nat → Nat → Prop} {n : Nat} {M : Nat → Nat → Bool} (h : ∀ a b, a < n → b < n → (M a b = true ↔ E a b)) : War E n 0 0 0 M :=
  ⟨fun a b ha hb hab => .base ((h a b ha hb).1 hab), fun a b ha hb ht => (h a b ha hb).2 ht.zero, fun a b h0 => by omega, fun b hb => by omega⟩
theorem War.done {E : Nat → Nat → Prop} {n : Nat} {M : Nat → Nat → Bool} (h : War E n n 0 0 M) (hE : ∀ i j, E i j → j < n) (a b : Nat) (ha : a < n) (hb : b < n) : M a b = true ↔ Plus E a b :=
  ⟨h.sound a b ha hb, fun hp => h.old a b ha hb (hp.thru hE).1⟩
def findR (L : List Cls) (n : List UInt8) : Option Nat := L.findIdx? (fun c => c.name == n)
def StepR (L : List Cls) (i j : Nat) : Prop := ∃ c, L[i]? = some c ∧ ∃ n ∈ c.sup :: c.like, findR L n = some j
theorem StepR.lt {L : List Cls} {i j : Nat} (h : StepR L i j) : j < L.length := by
  obtain ⟨c, _, n, _, h⟩ := h
  unfold findR at h
  exact (List.findIdx?_eq_some_iff_getElem.1 h).1
end Go.Proofs.YtpincofjopmaaaaGreatDoor
