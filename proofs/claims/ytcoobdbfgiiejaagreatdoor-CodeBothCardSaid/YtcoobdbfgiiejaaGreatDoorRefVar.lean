/-
  The contract of the document's Var, Int, Text and Flag: the bytes as a string.
  Conditions: the number is a uint64.
-/
import Derived.Test.YtcoobdbfgiiejaaGreatDoorVar
namespace Go.Proofs.YtcoobdbfgiiejaaGreatDoor
open Go.RowKit
set_option maxHeartbeats 4000000 in
set_option maxRecDepth 100000 in
theorem refvar_any (x : Nat) (hx : x < 18446744073709551616) (w : World) :
    Calls Tryz.prog 17 #[.int .u64 x] w fun e w' => e = .returned (.string (S (Lib.uvarint x))) ∧ Below w.heap.size w w' := by
  have hlen := Lib.uvarint_length64 hx
  go_enter Tryz.func17, Tryz.ntmps17
  go_wp2
  go_loopw [0, 3] (fun vx vs wr => ∃ (y : Nat) (pre : List UInt8), vx = .int .u64 y ∧ vs = .string (S pre) ∧ y ≤ x ∧ Lib.uvarint x = pre ++ Lib.uvarint y ∧ Below w.heap.size w wr)
    (fun vx _ _ => (intOf vx).toNat)
  case atStart => exact ⟨x, [], rfl, rfl, Nat.le_refl _, rfl, Below.refl _ _⟩
  case round =>
    obtain ⟨y, pre, rfl, rfl, hy, hsplit, hnx⟩ := hrel
    have hpl : pre.length + (Lib.uvarint y).length ≤ 10 := by
      have h2 := congrArg List.length hsplit
      rw [List.length_append] at h2
      omega
    have hsz := hnx.size
    have hps : (S pre).size ≤ 10 := by rw [S_size]; omega
    have HS := Lib.hid hsplit
    clear hsplit hpl
    by_cases h128 : 128 ≤ y
    · obtain ⟨c, hc⟩ : ∃ c, c = (y % 128 + 128).toUInt8 := ⟨_, rfl⟩
      have hcv := conv_one wr c ((y : Int) % 128 + 128) (by rw [hc, Lib.toUInt8_toNat (by omega)]; omega)
      have hcs : (S [c]).size ≤ 1 := by rw [S_size]; exact Nat.le_refl _
      have HC := Lib.hid hc
      clear hc
      go_wp2
      go_roundw
      case rel => exact ⟨y / 128, pre ++ [c], by go_num, by rw [S_append], by omega, by rw [HS.out, Lib.uvarint_big h128, HC.out]; simp, hnx.alloc hsz _⟩
      case measure => simp [intOf]; omega
    · obtain ⟨c, hc⟩ : ∃ c, c = y.toUInt8 := ⟨_, rfl⟩
      have hcv := conv_one wr c (y : Int) (by rw [hc, Lib.toUInt8_toNat (by omega)])
      have hcs : (S [c]).size ≤ 1 := by rw [S_size]; exact Nat.le_refl _
      have HC := Lib.hid hc
      clear hc
      go_wp2
      go_ret
      exact ⟨by rw [HS.out, Lib.uvarint_small (by omega), ← HC.out, ← S_append]; rfl, hnx.alloc hsz _⟩
end Go.Proofs.YtcoobdbfgiiejaaGreatDoor
