/-
  Plain: what is written as a varint is read as the same number; '[]byte(s)' holds the string's bytes.
  Conditions: the number is a uint64.
  The contract of the document's Num: the number that bytes begin with, what is behind it, and an error, as the reader's own rules have it.
  Conditions: the text is at most 2^62 bytes.
  Plain: where a number that is read ends.
  Conditions: none.
-/
import Derived.Test.YtpincofjopmaaaaGreatDoorM09
import Derived.Lib.ConvBytes
import Derived.Test.YtpincofjopmaaaaGreatDoorM14
namespace Go.Proofs.YtpincofjopmaaaaGreatDoor
open Go.RowKit
theorem pow9 (i x : Nat) (hi : i ≤ 9) (h : x * 128 ^ i < 18446744073709551616) : i = 9 → x ≤ 1 := by
  intro h9
  subst h9
  rcases Nat.lt_or_ge 1 x with h1 | h1
  · have : 2 * 128 ^ 9 ≤ x * 128 ^ 9 := Nat.mul_le_mul_right _ h1
    have h2 : (18446744073709551616 : Nat) ≤ 2 * 128 ^ 9 := by decide
    exact absurd h (Nat.not_lt.2 (Nat.le_trans h2 this))
  · exact h1
theorem pow10 (i x : Nat) (hi : 10 ≤ i) (h : x * 128 ^ i < 18446744073709551616) : x = 0 := by
  rcases Nat.eq_zero_or_pos x with h1 | h1
  · exact h1
  · have h3 : 128 ^ 10 ≤ 128 ^ i := Nat.pow_le_pow_right (by decide) hi
    have h4 : 1 * 128 ^ 10 ≤ x * 128 ^ i := Nat.mul_le_mul h1 h3
    have h2 : (18446744073709551616 : Nat) ≤ 1 * 128 ^ 10 := by decide
    exact absurd h (Nat.not_lt.2 (Nat.le_trans h2 h4))
theorem div_pow (x i : Nat) : x % 128 * 128 ^ i + x / 128 * 128 ^ (i + 1) = x * 128 ^ i := by
  have h : x = x % 128 + 128 * (x / 128) := (Nat.mod_add_div x 128).symm
  have e : x * 128 ^ i = (x % 128 + 128 * (x / 128)) * 128 ^ i := congrArg (· * 128 ^ i) h
  rw [e, Nat.add_mul, Nat.pow_succ]
  congr 1
  rw [Nat.mul_comm 128 (x / 128), Nat.mul_assoc, Nat.mul_comm 128 (128 ^ i)]
theorem numFrom_var (t : List UInt8) : ∀ (n x : Nat), x ≤ n → ∀ (i acc : Nat), i ≤ 9 → x * 128 ^ i < 18446744073709551616 → (0 < i → x ≠ 0) →
    numFrom i acc (Lib.uvarint x ++ t) = (0, acc + x * 128 ^ i, i + (Lib.uvarint x).length) := by
  intro n
  induction n with
  | zero =>
    intro x hx i acc hi hlt h0
    obtain rfl : x = 0 := by omega
    have hi0 : i = 0 := by
      rcases Nat.eq_zero_or_pos i with h | h
      · exact h
      · exact absurd rfl (h0 h)
    subst hi0
    rw [Lib.uvarint_small (by decide)]
    simp [numFrom]
  | succ n ih =>
    intro x hx i acc hi hlt h0
    have h9 := pow9 i x hi hlt
    by_cases hs : x < 128
    · rw [Lib.uvarint_small hs]
      have hb : (x.toUInt8).toNat = x := Lib.toUInt8_toNat (by omega)
      show numFrom i acc (x.toUInt8 :: t) = _
      rw [numFrom_done (by rw [hb]; exact fun q => q.elim (fun a => h0 a.1 a.2) (fun a => by have := h9 a.1; omega)) (by rw [hb]; exact hs), hb, Nat.mod_eq_of_lt hs]
      rfl
    · rw [Lib.uvarint_big (by omega)]
      have hb : ((x % 128 + 128).toUInt8).toNat = x % 128 + 128 := Lib.toUInt8_toNat (by omega)
      show numFrom i acc ((x % 128 + 128).toUInt8 :: (Lib.uvarint (x / 128) ++ t)) = _
      have hi9 : i ≠ 9 := fun h => by have := h9 h; omega
      have hd := div_pow x i
      rw [numFrom_more (by rw [hb]; omega) (by rw [hb]; omega), hb, show (x % 128 + 128) % 128 = x % 128 from by omega,
        ih (x / 128) (by omega) (i + 1) _ (by omega) (by omega) (fun _ => by omega), Nat.add_assoc, hd]
      simp only [List.length_cons]
      congr 2
      omega
theorem num_var (x : Nat) (hx : x < 18446744073709551616) (t : List UInt8) : numFrom 0 0 (Lib.uvarint x ++ t) = (0, x, (Lib.uvarint x).length) := by
  have h := numFrom_var t x x (Nat.le_refl _) 0 0 (by omega) (by simpa using hx) (fun h => absurd h (by decide))
  simpa using h
end Go.Proofs.YtpincofjopmaaaaGreatDoor
namespace Go.Proofs.YtpincofjopmaaaaGreatDoor
open Go.RowKit
/-- Seven bits a byte, the lowest first. -/
def leVal : List UInt8 → Nat
  | [] => 0
  | c :: t => c.toNat % 128 + 128 * leVal t
theorem lead (s : List UInt8) : ∀ (k i acc : Nat), (∀ j c, j < k → s[j]? = some c → 128 ≤ c.toNat) → k ≤ s.length → i + k ≤ 9 → numFrom i acc s = numFrom (i + k) (acc + 128 ^ i * leVal (s.take k)) (s.drop k) := by
  induction s with
  | nil =>
    intro k i acc _ hk _
    obtain rfl : k = 0 := (by simpa using hk)
    simp [leVal]
  | cons c t ih =>
    intro k i acc h hk hi
    cases k with
    | zero => simp [leVal]
    | succ k =>
      have hc := h 0 c (by omega) rfl
      rw [numFrom_more (by omega) (by omega), ih k (i + 1) _ (fun j d hj hd => h (j + 1) d (by omega) (by simpa using hd)) (by simpa using hk) (by omega)]
      rw [show i + 1 + k = i + (k + 1) from by omega]
      simp only [List.take_succ_cons, List.drop_succ_cons, leVal]
      congr 1
      rw [Nat.pow_succ, Nat.mul_add, Nat.add_assoc, Nat.mul_comm (c.toNat % 128) (128 ^ i), Nat.mul_assoc]
theorem leVal_snoc (l : List UInt8) (c : UInt8) : leVal (l ++ [c]) = leVal l + c.toNat % 128 * 128 ^ l.length := by
  induction l with
  | nil => simp [leVal]
  | cons d t ih =>
    simp only [List.cons_append, leVal, ih, List.length_cons, Nat.pow_succ]
    rw [Nat.mul_add, Nat.add_assoc]
    congr 2
    rw [← Nat.mul_assoc, Nat.mul_comm 128, Nat.mul_assoc, Nat.mul_comm 128]
/-- The three ends of the first walk. -/
theorem num_short (s : List UInt8) (k : Nat) (h : ∀ j c, j < k → s[j]? = some c → 128 ≤ c.toNat) (hk : k = s.length) (h9 : k ≤ 9) : numFrom 0 0 s = (10, 0, k) := by
  rw [lead s k 0 0 h (by omega) (by omega), hk, List.drop_length]
  simp [numFrom]
theorem num_end (s : List UInt8) (k : Nat) (c : UInt8) (h : ∀ j c, j < k → s[j]? = some c → 128 ≤ c.toNat) (h9 : k ≤ 9) (hc : s[k]? = some c) : numFrom 0 0 s = if (0 < k ∧ c.toNat = 0) ∨ (k = 9 ∧ 1 < c.toNat) then (11, 0, k + 1) else if c.toNat < 128 then (0, leVal (s.take (k + 1)), k + 1) else numFrom (k + 1) (leVal (s.take (k + 1))) (s.drop (k + 1)) := by
  have hkl : k < s.length := (List.getElem?_eq_some_iff.1 hc).1
  have hce : s[k] = c := (List.getElem?_eq_some_iff.1 hc).2
  have ht : leVal (s.take (k + 1)) = leVal (s.take k) + c.toNat % 128 * 128 ^ k := by
    rw [List.take_succ_eq_append_getElem hkl, leVal_snoc, hce, List.length_take, Nat.min_eq_left (by omega)]
  rw [lead s k 0 0 h (by omega) (by omega), List.drop_eq_getElem_cons hkl, hce, Nat.zero_add, Nat.zero_add, Nat.pow_zero, Nat.one_mul, ht]
  by_cases h1 : (0 < k ∧ c.toNat = 0) ∨ (k = 9 ∧ 1 < c.toNat)
  · rw [if_pos h1, numFrom_bad h1]
  · rw [if_neg h1]
    by_cases h2 : c.toNat < 128
    · rw [if_pos h2, numFrom_done h1 h2]
    · rw [if_neg h2, numFrom_more h1 h2]
theorem leVal_drop (l : List UInt8) : leVal (l.drop 1) ≤ leVal l := by
  cases l with
  | nil => simp [leVal]
  | cons c t => simp only [List.drop_succ_cons, List.drop_zero, leVal]; omega
theorem leVal_drops (l : List UInt8) (k : Nat) : leVal (l.drop k) ≤ leVal l := by
  induction k with
  | zero => simp
  | succ k ih =>
    have := leVal_drop (l.drop k)
    rw [List.drop_drop] at this
    omega
/-- What Num answers. -/
def NumRef (s : List UInt8) (w : World) (e : Ending) (w' : World) : Prop :=
  e = .returned (.tuple #[.int .u64 (numFrom 0 0 s).2.1, .string (S (if (numFrom 0 0 s).1 = 0 then s.drop (numFrom 0 0 s).2.2 else s)), .int .i64 (numFrom 0 0 s).1]) ∧ ∃ q, w' = w.drewN q
end Go.Proofs.YtpincofjopmaaaaGreatDoor
namespace Go.Proofs.YtpincofjopmaaaaGreatDoor
open Go.RowKit
theorem numFrom_pos : ∀ (t : List UInt8) (k acc : Nat), (numFrom k acc t).1 = 0 → k < (numFrom k acc t).2.2 ∧ (numFrom k acc t).2.2 ≤ k + t.length
  | [], k, acc, h => by simp [numFrom] at h
  | x :: t, k, acc, h => by
    by_cases h1 : (0 < k ∧ x.toNat = 0) ∨ (k = 9 ∧ 1 < x.toNat)
    · rw [numFrom_bad h1] at h; simp at h
    · by_cases h2 : x.toNat < 128
      · rw [numFrom_done h1 h2]; simp
      · rw [numFrom_more h1 h2] at h ⊢
        have := numFrom_pos t (k + 1) _ h
        simp only [List.length_cons]
        omega
end Go.Proofs.YtpincofjopmaaaaGreatDoor
