/-
  Plain: where a number that is read ends.
  Conditions: none.
-/
import Derived.Test.YtcoobdbfgiiejaaGreatDoorRefNum
namespace Go.Proofs.YtcoobdbfgiiejaaGreatDoor
open Go.RowKit
theorem numFrom_pos : ∀ (t : List UInt8) (k acc : Nat), (numFrom k acc t).1 = 0 → k < (numFrom k acc t).2.2 ∧ (numFrom k acc t).2.2 ≤ k + t.length
  | [], k, acc, h => by simp [numFrom] at h
  | x :: t, k, acc, h => by
    by_cases h1 : (0 < k ∧ x.toNat = 0) ∨ (k = 9 ∧ 1 < x.toNat)
    · rw [numFrom_bad h1] at h; simp at h
    · by_cases h2 : x.toNat < 128
      · rw [numFrom_done h1 h2]; simp
      · rw [numFrom_more h1 h2] at h ⊢
        have := numFrom_pos t (k + 1) _ h
        simp only [List.length_cons]
        omega
end Go.Proofs.YtcoobdbfgiiejaaGreatDoor
