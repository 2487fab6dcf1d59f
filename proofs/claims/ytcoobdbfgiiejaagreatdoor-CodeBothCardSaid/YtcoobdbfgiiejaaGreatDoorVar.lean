/-
  The contracts of pack.appendVar, pack.Var and the document's Var: the varint of a number, appended to a slice of the caller's own, in new memory, or as a string.
  Conditions: the number is a uint64; the slice that is appended to owns its bytes.
-/
import Derived.Test.YtcoobdbfgiiejaaGreatDoorNum
import Derived.Laws.BytesArg
import Derived.Laws.BitsAllLaws
namespace Go.Proofs.YtcoobdbfgiiejaaGreatDoor
open Go.RowKit
theorem and127 (y : Nat) (hy : y < 18446744073709551616) : bits .and .u64 (y : Int) 127 = ((y % 128 : Nat) : Int) := by
  have h := bits_mask .u64 64 (by decide) wraps_u64 7 (by decide) (y : Int) (by omega) (by omega)
  have e : ((2 : Int) ^ 7 - 1) = 127 := by decide
  simpa using h
set_option maxRecDepth 100000 in
theorem or128_nat2 : ∀ a : Fin 128, (a.val ||| 128) = a.val + 128 := by decide
theorem or128 (a : Nat) (h : a < 128) : bits .or .u64 (a : Int) 128 = ((a + 128 : Nat) : Int) := by
  have h1 := (bits_nat .u64 64 (by decide) wraps_u64 a 128 (by omega) (by decide)).2
  have h2 : (a ||| 128) = a + 128 := or128_nat2 ⟨a, h⟩
  rw [h2] at h1
  exact h1

set_option maxHeartbeats 4000000 in
set_option maxRecDepth 100000 in
theorem appendVar_any (x : Nat) (hx : x < 18446744073709551616) (sv : Value) (l : List UInt8) (w : World) (hown : RowIs w sv l) (hlim : l.length + 10 ≤ 140737488355328) :
    Calls Tryz.prog 55 #[sv, .int .u64 x] w fun e w' => ∃ v', e = .returned v' ∧ RowIs w' v' (l ++ Lib.uvarint x) ∧ Grew w sv w' v' := by
  obtain ⟨i0, hi, hz0, hz1, hz2⟩ := info_parts info_u8
  have hlen := Lib.uvarint_length64 hx
  go_enter Tryz.func55, Tryz.ntmps55
  go_wp2
  go_loopw [0, 1, 5] (fun vb vx vi wr => ∃ (y k : Nat) (pre : List UInt8), vi = .int .i64 k ∧ vx = .int .u64 y ∧ y ≤ x ∧ Lib.uvarint x = pre ++ Lib.uvarint y ∧ pre.length = k ∧ RowIs wr vb (l ++ pre) ∧ Grew w sv wr vb)
    (fun _ _ vi _ => 10 - (intOf vi).toNat)
  case atStart => exact ⟨x, 0, [], rfl, rfl, Nat.le_refl _, rfl, rfl, by simpa using hown, Grew.refl _ _⟩
  case round =>
    obtain ⟨y, k, pre, rfl, rfl, hy, hsplit, hpre, hown1, hnx⟩ := hrel
    have hpl : k + (Lib.uvarint y).length ≤ 10 := by
      have h2 := congrArg List.length hsplit
      rw [List.length_append] at h2
      omega
    have hyp := Lib.uvarint_pos y
    have hk9 : k ≤ 9 := by omega
    have HS := Lib.hid hsplit
    have HP := Lib.hid hpre
    have hll : (l ++ pre).length ≤ l.length + 9 := by rw [List.length_append]; omega
    clear hsplit hpre
    by_cases h128 : 128 ≤ y
    · have hk8 : k ≤ 8 := by rw [Lib.uvarint_big h128, List.length_cons] at hpl; have := Lib.uvarint_pos (y / 128); omega
      have hand : bits .and .u64 (y : Int) 127 = (y : Int) % 128 := (and127 y (by omega)).trans (by omega)
      have hor : bits .or .u64 ((y : Int) % 128) 128 = (y : Int) % 128 + 128 := by have h := or128 (y % 128) (by omega); rw [show ((y % 128 : Nat) : Int) = (y : Int) % 128 from by omega] at h; rw [h]; omega
      clear hpl
      go_wp2_with (at_builtin; refine wpList_append_fine _ rfl _ _ 25 rfl 5 i0 (.int .u8 0) 1 1 Tryz.underlying25 hi hz0 hz1 hz2 rfl (by decide) _ _ _ rfl (hown1.alloc _) ⟨wr.heap.size, 0, none⟩ 1 1 [Value.int .u8 ((y % 128 + 128 : Nat) : Int)] rfl rfl ?c1 ?c2 ?c3 ?c4 ?_)
      case c1 =>
        intro j u hj
        match j, hj with
        | 0, hj => simp at hj; subst hj; simp [Addr.add]
      case c2 => intro u hu; simp at hu; subst hu; rfl
      case c3 => unfold maxLen; omega
      case c4 => omega
      intro v' w1 hown' hgrow
      have hnx1 : Grew w sv w1 v' := (hnx.alloc _).trans hgrow
      go_wp2
      go_roundw
      case rel =>
        refine ⟨y / 128, k + 1, pre ++ [(y % 128 + 128).toUInt8], by go_num, by go_num, by omega, by rw [HS.out, Lib.uvarint_big h128]; simp, by rw [List.length_append, HP.out]; rfl, ?_, hnx1⟩
        show w1.ownsRow 0 _ 1 _ (l ++ (pre ++ [(y % 128 + 128).toUInt8])).length (Lib.byteCells (l ++ (pre ++ [(y % 128 + 128).toUInt8])))
        rw [← List.append_assoc, Lib.byteCells_snoc _ (by omega), List.length_append, List.length_singleton, List.length_append, show ((y % 128 + 128 : Nat) : Int) = (y : Int) % 128 + 128 from by omega]
        exact hown'
      case measure => simp [intOf]; omega
    · have hsm : Lib.uvarint y = [y.toUInt8] := Lib.uvarint_small (by omega)
      have HM := Lib.hid hsm
      clear hsm hpl
      go_wp2_with (at_builtin; refine wpList_append_fine _ rfl _ _ 25 rfl 5 i0 (.int .u8 0) 1 1 Tryz.underlying25 hi hz0 hz1 hz2 rfl (by decide) _ _ _ rfl (hown1.alloc _) ⟨wr.heap.size, 0, none⟩ 1 1 [Value.int .u8 (y : Int)] rfl rfl ?d1 ?d2 ?d3 ?d4 ?_)
      case d1 =>
        intro j u hj
        match j, hj with
        | 0, hj => simp at hj; subst hj; simp [Addr.add]
      case d2 => intro u hu; simp at hu; subst hu; rfl
      case d3 => unfold maxLen; omega
      case d4 => omega
      intro v' w1 hown' hgrow
      have hnx1 : Grew w sv w1 v' := (hnx.alloc _).trans hgrow
      go_wp2
      go_ret
      refine ⟨v', rfl, ?_, hnx1⟩
      show w1.ownsRow 0 _ 1 _ (l ++ Lib.uvarint x).length (Lib.byteCells (l ++ Lib.uvarint x))
      rw [HS.out, HM.out, ← List.append_assoc, Lib.byteCells_snoc _ (by omega), List.length_append, List.length_singleton, List.length_append]
      exact hown'
end Go.Proofs.YtcoobdbfgiiejaaGreatDoor
