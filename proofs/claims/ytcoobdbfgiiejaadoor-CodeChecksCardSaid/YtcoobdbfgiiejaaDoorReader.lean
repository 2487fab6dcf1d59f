/-
  The contracts of package pack's reader, the inner part: Left, next, number: what a reader reads of its bytes as a number, by the rules of the document.
  Conditions: the reader holds its bytes (at most 2^47), stands within them.
-/
import Derived.Test.YtcoobdbfgiiejaaDoorWriterB
import Derived.Deep.QuietTactic
import Derived.BigQuiet
import Derived.Lib.VarintBits
import Derived.Laws.ShiftsVarLaws
namespace Go.Proofs.YtcoobdbfgiiejaaDoor
open Go.RowKit
/-- A number of the bytes: i groups have been read, they make acc. The error, the number, how many bytes have been read in all. -/
def numFrom (i acc : Nat) : List UInt8 → Nat × Nat × Nat
  | [] => (10, 0, i)
  | c :: t =>
    if (0 < i ∧ c.toNat = 0) ∨ (i = 9 ∧ 1 < c.toNat) then (11, 0, i + 1)
    else if c.toNat < 128 then (0, acc + c.toNat % 128 * 128 ^ i, i + 1)
    else numFrom (i + 1) (acc + c.toNat % 128 * 128 ^ i) t
theorem row_shape_len {B : Nat} {w : World} {e : TypeId} {size : Nat} {v : Value} {n : Nat} {xs : List Value} (h : w.ownsRow B e size v n xs) : ∃ ao c, v = .slice ao n c := by
  rcases h.2 with ⟨rfl, rfl⟩ | ⟨g, cap, cur, rfl, _⟩
  · exact ⟨_, _, rfl⟩
  · exact ⟨_, _, rfl⟩
theorem row_at {w : World} {v : Value} {l : List UInt8} (h : RowIs w v l) (j : Nat) (hj : j < l.length) : ∃ g c, v = .slice (some ⟨g, 0, none⟩) l.length c ∧ w.cell? ⟨g, j, none⟩ = some (.int .u8 (l[j].toNat : Int)) := by
  rcases h.2 with ⟨rfl, h0⟩ | ⟨g, cap, cur, rfl, _⟩
  · omega
  · refine ⟨g, cap, rfl, ?_⟩
    rw [h.cellAt j (by omega), byteCells_at, List.getElem?_eq_getElem hj]
    rfl

theorem drop_at (l : List UInt8) (i : Nat) (h : i < l.length) : l.drop i = l[i] :: l.drop (i + 1) := List.drop_eq_getElem_cons h

theorem numFrom_bad {k acc : Nat} {x : UInt8} {t : List UInt8} (h : (0 < k ∧ x.toNat = 0) ∨ (k = 9 ∧ 1 < x.toNat)) : numFrom k acc (x :: t) = (11, 0, k + 1) := by
  unfold numFrom; rw [if_pos h]
theorem numFrom_done {k acc : Nat} {x : UInt8} {t : List UInt8} (h : ¬ ((0 < k ∧ x.toNat = 0) ∨ (k = 9 ∧ 1 < x.toNat))) (h1 : x.toNat < 128) : numFrom k acc (x :: t) = (0, acc + x.toNat % 128 * 128 ^ k, k + 1) := by
  unfold numFrom; rw [if_neg h, if_pos h1]
theorem numFrom_more {k acc : Nat} {x : UInt8} {t : List UInt8} (h : ¬ ((0 < k ∧ x.toNat = 0) ∨ (k = 9 ∧ 1 < x.toNat))) (h1 : ¬ x.toNat < 128) : numFrom k acc (x :: t) = numFrom (k + 1) (acc + x.toNat % 128 * 128 ^ k) t := by
  conv => lhs; unfold numFrom
  rw [if_neg h, if_neg h1]
theorem pow_128 (k : Nat) : (2 : Nat) ^ (7 * k) = 128 ^ k := by rw [Nat.pow_mul]
set_option maxRecDepth 100000 in
theorem orv (k acc x : Nat) (hk : k ≤ 9) (hacc : acc < 128 ^ k) (hx : x < 256) (h9 : k = 9 → x ≤ 1) :
    bits .or .u64 (acc : Int) (IntKind.u64.wrap (IntKind.u64.wrap (bits .and .u8 (x : Int) 127) * 2 ^ (7 * k))) = ((acc + x % 128 * 128 ^ k : Nat) : Int) := by
  have e0 : bits .and .u8 (x : Int) 127 = ((x % 128 : Nat) : Int) := by rw [u8_and127 _ (by omega) (by omega)]; omega
  have hm : x % 128 < 128 := Nat.mod_lt _ (by decide)
  have hb : x % 128 * 128 ^ k < 18446744073709551616 := by
    rcases Nat.lt_or_ge k 9 with h | h
    · have h1 : 128 ^ k ≤ 128 ^ 8 := Nat.pow_le_pow_right (by decide) (by omega)
      have h2 : x % 128 * 128 ^ k ≤ 127 * 128 ^ 8 := Nat.mul_le_mul (by omega) h1
      exact Nat.lt_of_le_of_lt h2 (by decide)
    · obtain rfl : k = 9 := by omega
      have := h9 rfl
      have h2 : x % 128 * 128 ^ 9 ≤ 1 * 128 ^ 9 := Nat.mul_le_mul (by omega) (Nat.le_refl _)
      exact Nat.lt_of_le_of_lt h2 (by decide)
  have ha : acc < 18446744073709551616 := by
    have h1 : 128 ^ k ≤ 128 ^ 9 := Nat.pow_le_pow_right (by decide) hk
    exact Nat.lt_of_lt_of_le hacc (Nat.le_trans h1 (by decide))
  have e1 : IntKind.u64.wrap (IntKind.u64.wrap ((x % 128 : Nat) : Int) * 2 ^ (7 * k)) = ((x % 128 * 128 ^ k : Nat) : Int) := by
    have e2 : ((2 : Int) ^ (7 * k)) = ((128 ^ k : Nat) : Int) := by rw [← pow_128]; simp
    rw [e2, IntKind.wrap_u64, IntKind.wrap_u64]
    have e3 : ((x % 128 : Nat) : Int) % 18446744073709551616 = ((x % 128 : Nat) : Int) := by omega
    rw [e3, ← Int.natCast_mul]
    omega
  rw [e0, e1]
  have e4 : ((2 : Int) ^ (7 * k)) = ((128 ^ k : Nat) : Int) := by rw [← pow_128]; simp
  have hj := bits_join_low .u64 64 (by decide) wraps_u64 (7 * k) (acc : Int) ((x % 128 * 128 ^ k : Nat) : Int) (by omega) (by rw [e4]; omega) (by omega) (by omega) (by rw [e4, ← Int.natCast_emod, Nat.mul_mod_left]; rfl) (by omega)
  rw [hj]
  omega
theorem orv_lt (k acc x : Nat) (hacc : acc < 128 ^ k) : acc + x % 128 * 128 ^ k < 128 ^ (k + 1) := by
  have hm : x % 128 < 128 := Nat.mod_lt _ (by decide)
  have h2 : x % 128 * 128 ^ k ≤ 127 * 128 ^ k := Nat.mul_le_mul (by omega) (Nat.le_refl _)
  rw [Nat.pow_succ]
  omega
theorem ret_pair {k k' : IntKind} {a a' b b' : Int} (h : a = a') (h' : b = b') : Ending.returned (.tuple #[.int k a, .int k' b]) = .returned (.tuple #[.int k a', .int k' b']) := by rw [h, h']

end Go.Proofs.YtcoobdbfgiiejaaDoor
