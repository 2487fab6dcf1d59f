/-
  Plain: what is written as a varint is read as the same number; '[]byte(s)' holds the string's bytes.
  Conditions: the number is a uint64.
-/
import Derived.Test.YtcoobdbfgiiejaaGreatDoorReaderB
import Derived.Lib.ConvBytes
namespace Go.Proofs.YtcoobdbfgiiejaaGreatDoor
open Go.RowKit
theorem pow9 (i x : Nat) (hi : i ≤ 9) (h : x * 128 ^ i < 18446744073709551616) : i = 9 → x ≤ 1 := by
  intro h9
  subst h9
  rcases Nat.lt_or_ge 1 x with h1 | h1
  · have : 2 * 128 ^ 9 ≤ x * 128 ^ 9 := Nat.mul_le_mul_right _ h1
    have h2 : (18446744073709551616 : Nat) ≤ 2 * 128 ^ 9 := by decide
    exact absurd h (Nat.not_lt.2 (Nat.le_trans h2 this))
  · exact h1
theorem pow10 (i x : Nat) (hi : 10 ≤ i) (h : x * 128 ^ i < 18446744073709551616) : x = 0 := by
  rcases Nat.eq_zero_or_pos x with h1 | h1
  · exact h1
  · have h3 : 128 ^ 10 ≤ 128 ^ i := Nat.pow_le_pow_right (by decide) hi
    have h4 : 1 * 128 ^ 10 ≤ x * 128 ^ i := Nat.mul_le_mul h1 h3
    have h2 : (18446744073709551616 : Nat) ≤ 1 * 128 ^ 10 := by decide
    exact absurd h (Nat.not_lt.2 (Nat.le_trans h2 h4))
theorem div_pow (x i : Nat) : x % 128 * 128 ^ i + x / 128 * 128 ^ (i + 1) = x * 128 ^ i := by
  have h : x = x % 128 + 128 * (x / 128) := (Nat.mod_add_div x 128).symm
  have e : x * 128 ^ i = (x % 128 + 128 * (x / 128)) * 128 ^ i := congrArg (· * 128 ^ i) h
  rw [e, Nat.add_mul, Nat.pow_succ]
  congr 1
  rw [Nat.mul_comm 128 (x / 128), Nat.mul_assoc, Nat.mul_comm 128 (128 ^ i)]
theorem numFrom_var (t : List UInt8) : ∀ (n x : Nat), x ≤ n → ∀ (i acc : Nat), i ≤ 9 → x * 128 ^ i < 18446744073709551616 → (0 < i → x ≠ 0) →
    numFrom i acc (Lib.uvarint x ++ t) = (0, acc + x * 128 ^ i, i + (Lib.uvarint x).length) := by
  intro n
  induction n with
  | zero =>
    intro x hx i acc hi hlt h0
    obtain rfl : x = 0 := by omega
    have hi0 : i = 0 := by
      rcases Nat.eq_zero_or_pos i with h | h
      · exact h
      · exact absurd rfl (h0 h)
    subst hi0
    rw [Lib.uvarint_small (by decide)]
    simp [numFrom]
  | succ n ih =>
    intro x hx i acc hi hlt h0
    have h9 := pow9 i x hi hlt
    by_cases hs : x < 128
    · rw [Lib.uvarint_small hs]
      have hb : (x.toUInt8).toNat = x := Lib.toUInt8_toNat (by omega)
      show numFrom i acc (x.toUInt8 :: t) = _
      rw [numFrom_done (by rw [hb]; exact fun q => q.elim (fun a => h0 a.1 a.2) (fun a => by have := h9 a.1; omega)) (by rw [hb]; exact hs), hb, Nat.mod_eq_of_lt hs]
      rfl
    · rw [Lib.uvarint_big (by omega)]
      have hb : ((x % 128 + 128).toUInt8).toNat = x % 128 + 128 := Lib.toUInt8_toNat (by omega)
      show numFrom i acc ((x % 128 + 128).toUInt8 :: (Lib.uvarint (x / 128) ++ t)) = _
      have hi9 : i ≠ 9 := fun h => by have := h9 h; omega
      have hd := div_pow x i
      rw [numFrom_more (by rw [hb]; omega) (by rw [hb]; omega), hb, show (x % 128 + 128) % 128 = x % 128 from by omega,
        ih (x / 128) (by omega) (i + 1) _ (by omega) (by omega) (fun _ => by omega), Nat.add_assoc, hd]
      simp only [List.length_cons]
      congr 2
      omega
theorem num_var (x : Nat) (hx : x < 18446744073709551616) (t : List UInt8) : numFrom 0 0 (Lib.uvarint x ++ t) = (0, x, (Lib.uvarint x).length) := by
  have h := numFrom_var t x x (Nat.le_refl _) 0 0 (by omega) (by simpa using hx) (fun h => absurd h (by decide))
  simpa using h
end Go.Proofs.YtcoobdbfgiiejaaGreatDoor
