/-
  The contracts of package pack's reader, the outer part: Read, Num, Int, Flag, Err, End.
  Conditions: the reader holds its bytes (at most 2^47), stands within them.
-/
import Derived.Test.YtcoobdbfgiiejaaDoorReader
namespace Go.Proofs.YtcoobdbfgiiejaaDoor
open Go.RowKit
theorem numFrom_lt : ∀ (t : List UInt8) (k acc : Nat), k ≤ 9 → acc < 128 ^ k → (numFrom k acc t).2.1 < 18446744073709551616
  | [], k, acc, _, _ => by simp [numFrom]
  | x :: t, k, acc, hk, ha => by
    by_cases h1 : (0 < k ∧ x.toNat = 0) ∨ (k = 9 ∧ 1 < x.toNat)
    · rw [numFrom_bad h1]; exact (by decide : (0 : Nat) < 18446744073709551616)
    · by_cases h2 : x.toNat < 128
      · rw [numFrom_done h1 h2]
        show acc + x.toNat % 128 * 128 ^ k < _
        by_cases h9 : k = 9
        · subst h9
          have h3 : x.toNat % 128 * 128 ^ 9 ≤ 1 * 128 ^ 9 := Nat.mul_le_mul (by omega) (Nat.le_refl _)
          have h4 : acc + x.toNat % 128 * 128 ^ 9 < 128 ^ 9 + 1 * 128 ^ 9 := Nat.add_lt_add_of_lt_of_le ha h3
          exact Nat.lt_of_lt_of_le h4 (by decide)
        · have h3 := orv_lt k acc x.toNat ha
          have h4 : 128 ^ (k + 1) ≤ 128 ^ 9 := Nat.pow_le_pow_right (by decide) (by omega)
          exact Nat.lt_of_lt_of_le h3 (Nat.le_trans h4 (by decide))
      · rw [numFrom_more h1 h2]
        exact numFrom_lt t (k + 1) _ (by have := x.toNat_lt; omega) (orv_lt k acc x.toNat ha)
theorem num_lt {l : List UInt8} {E V K : Nat} (h : numFrom 0 0 l = (E, V, K)) : V < 18446744073709551616 := by
  have := numFrom_lt l 0 0 (by omega) (by decide)
  rw [h] at this
  exact this
theorem numFrom_err : ∀ (t : List UInt8) (k acc : Nat), (numFrom k acc t).1 ≠ 0 → (numFrom k acc t).2.1 = 0
  | [], k, acc, _ => by simp [numFrom]
  | x :: t, k, acc, he => by
    by_cases h1 : (0 < k ∧ x.toNat = 0) ∨ (k = 9 ∧ 1 < x.toNat)
    · rw [numFrom_bad h1]
    · by_cases h2 : x.toNat < 128
      · rw [numFrom_done h1 h2] at he; exact absurd rfl he
      · rw [numFrom_more h1 h2] at he ⊢
        exact numFrom_err t (k + 1) _ he
theorem num_err {l : List UInt8} {E V K : Nat} (h : numFrom 0 0 l = (E, V, K)) (hE : E ≠ 0) : V = 0 := by
  have := numFrom_err l 0 0
  rw [h] at this
  exact this hE
end Go.Proofs.YtcoobdbfgiiejaaDoor
