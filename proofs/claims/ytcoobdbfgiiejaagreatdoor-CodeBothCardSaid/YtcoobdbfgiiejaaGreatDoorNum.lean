/-
  The contracts of pack.Zig, pack.Zag and the document's Zig: each returns the zigzag encoding (or the number that it encodes) and leaves the world alone.
  Conditions: the arguments are within their types.
-/
import Derived.Test.YtcoobdbfgiiejaaGreatDoorMemPack
import Derived.Test.YtcoobdbfgiiejaaGreatDoorProg
import Derived.Lib.Zigzag
import Derived.IntWalk
namespace Go.Proofs.YtcoobdbfgiiejaaGreatDoor
open Go.RowKit

/-- The number that a zigzag encoding encodes. -/
def zag (v : Nat) : Int := if v % 2 = 0 then (v / 2 : Nat) else -((v / 2 : Nat) : Int) - 1

theorem zag_zigzag (n : Int) : zag (Lib.zigzag n) = n := by
  unfold zag Lib.zigzag
  split <;> split <;> omega
theorem zigzag_zag (v : Nat) : Lib.zigzag (zag v) = v := by
  unfold zag Lib.zigzag
  split <;> split <;> omega
theorem zag_bd (v : Nat) (h : v < 18446744073709551616) : -9223372036854775808 ≤ zag v ∧ zag v ≤ 9223372036854775807 := by
  unfold zag
  split <;> omega
theorem xor_u64_zero (a : Nat) (ha : a < 18446744073709551616) : bits .xor .u64 (a : Int) 0 = a := by
  have := bits_xor_u64_nat a 0 ha (by decide)
  simpa using this
theorem zig_bits (n : Int) (h0 : -9223372036854775808 ≤ n) (h1 : n ≤ 9223372036854775807) :
    bits .xor .u64 (IntKind.u64.wrap (IntKind.u64.wrap n * 2)) (IntKind.u64.wrap (n / 9223372036854775808)) = ((Lib.zigzag n : Nat) : Int) := by
  by_cases hn : 0 ≤ n
  · have e1 : n / 9223372036854775808 = 0 := by omega
    have e2 : IntKind.u64.wrap (IntKind.u64.wrap n * 2) = ((Lib.zigzag n : Nat) : Int) := by
      rw [Lib.zigzag_nonneg hn, IntKind.wrap_u64, IntKind.wrap_u64]
      omega
    rw [e1, e2, show IntKind.u64.wrap 0 = 0 from by decide, xor_u64_zero _ (Lib.zigzag_lt h0 h1)]
  · have e1 : n / 9223372036854775808 = -1 := by omega
    have hz := Lib.zigzag_neg h0 (by omega)
    have e3 : IntKind.u64.wrap (IntKind.u64.wrap n * 2) = (((2 * n + 18446744073709551616).toNat : Nat) : Int) := by
      rw [IntKind.wrap_u64, IntKind.wrap_u64]
      omega
    have e2 : IntKind.u64.max = ((2 ^ 64 - 1 : Nat) : Int) := by decide
    rw [e3, e2, bits_xor_u64_nat _ _ (by decide) (by omega)] at hz
    rw [e1, show IntKind.u64.wrap (-1) = ((2 ^ 64 - 1 : Nat) : Int) from by decide, e3, bits_xor_u64_nat _ _ (by omega) (by decide), Nat.xor_comm]
    exact hz
theorem xor_i64_comm (a b : Int) : bits .xor .i64 a b = bits .xor .i64 b a := by
  show IntKind.i64.wrap ((BitVec.ofInt 64 a ^^^ BitVec.ofInt 64 b).toNat : Int) = IntKind.i64.wrap ((BitVec.ofInt 64 b ^^^ BitVec.ofInt 64 a).toNat : Int)
  rw [BitVec.xor_comm]
theorem xor_i64_zero (x : Nat) (hx : x < 9223372036854775808) : bits .xor .i64 (x : Int) 0 = x := by
  show IntKind.i64.wrap ((BitVec.ofInt 64 (x : Int) ^^^ BitVec.ofInt 64 0).toNat : Int) = _
  have h2 : (BitVec.ofInt 64 (x : Int)).toNat = x := by
    rw [BitVec.ofInt_natCast, BitVec.toNat_ofNat]; exact Nat.mod_eq_of_lt (by omega)
  rw [BitVec.toNat_xor, h2, show (BitVec.ofInt 64 0).toNat = 0 from by decide, Nat.xor_zero, IntKind.wrap_i64]
  omega
theorem zag_bits (v : Nat) (h1 : v < 18446744073709551616) :
    bits .xor .i64 ((v : Int) / 2) (wrap64 (-wrap64 (bits .and .u64 (v : Int) 1))) = zag v := by
  rw [Lib.u64_and1 _ (by omega) (by omega)]
  have e : ((v : Int) / 2) = ((v / 2 : Nat) : Int) := by omega
  rw [e]
  unfold zag
  by_cases hv : v % 2 = 0
  · rw [if_pos hv, show (v : Int) % 2 = 0 from by omega, show wrap64 (-wrap64 0) = 0 from by kernel_rfl]
    exact xor_i64_zero _ (by omega)
  · rw [if_neg hv, show (v : Int) % 2 = 1 from by omega, show wrap64 (-wrap64 1) = -1 from by kernel_rfl, xor_i64_comm]
    exact Lib.i64_not _ (by omega)

theorem zig_any (n : Int) (w : World) (h0 : -9223372036854775808 ≤ n) (h1 : n ≤ 9223372036854775807) :
    Calls Tryz.prog 58 #[.int .i64 n] w fun e w' => e = .returned (.int .u64 (Lib.zigzag n)) ∧ w = w' := by
  go_enter Tryz.func58, Tryz.ntmps58
  go_wp2
  go_ret
  exact ⟨ret_int (zig_bits n h0 h1), rfl⟩
theorem refzig_any (n : Int) (w : World) (h0 : -9223372036854775808 ≤ n) (h1 : n ≤ 9223372036854775807) :
    Calls Tryz.prog 65 #[.int .i64 n] w fun e w' => e = .returned (.int .u64 (Lib.zigzag n)) ∧ w = w' := by
  go_enter Tryz.func65, Tryz.ntmps65
  go_wp2
  · go_ret
    have hn : 0 ≤ n := by assumption
    exact ⟨ret_int (by unfold Lib.zigzag; rw [if_pos hn]; omega), rfl⟩
  · go_ret
    have hn : n < 0 := by assumption
    exact ⟨ret_int (by unfold Lib.zigzag; rw [if_neg (by omega)]; omega), rfl⟩
theorem zag_any (v : Nat) (w : World) (h1 : v < 18446744073709551616) :
    Calls Tryz.prog 90 #[.int .u64 v] w fun e w' => e = .returned (.int .i64 (zag v)) ∧ w = w' := by
  go_enter Tryz.func90, Tryz.ntmps90
  go_wp2
  go_ret
  exact ⟨ret_int (zag_bits v h1), rfl⟩
end Go.Proofs.YtcoobdbfgiiejaaGreatDoor
