/-
  Plain mathematics of layer 4: the forty-two operators, where a name stands among them, what each has.
  Conditions: none; the last laws speak of how the program's table is read at an index.
-/
import Derived.Test.YtcoobdbfgiiejaaDoorS
import Derived.Test.YtcoobdbfgiiejaaDoorProg
import Derived.KernelRfl
namespace Go.Proofs.YtcoobdbfgiiejaaDoor
open Go.RowKit
/-- The operators in order: the name, and what it has (0 nothing, 1 a number, 2 a word, 3 a class, 4 a reference, 5 an element's kind, 6 a member). -/
def opTab : List (List UInt8 × Nat) := [
  ([105, 110, 116], 1),
  ([116, 114, 117, 101], 0),
  ([102, 97, 108, 115, 101], 0),
  ([119, 111, 114, 100], 2),
  ([110, 117, 108, 108], 0),
  ([108, 111, 97, 100], 1),
  ([115, 116, 111, 114, 101], 1),
  ([112, 111, 112], 0),
  ([100, 117, 112], 0),
  ([115, 119, 97, 112], 0),
  ([97, 100, 100], 0),
  ([115, 117, 98], 0),
  ([109, 117, 108], 0),
  ([100, 105, 118], 0),
  ([114, 101, 109], 0),
  ([110, 101, 103], 0),
  ([108, 101, 115, 115], 0),
  ([115, 97, 109, 101], 0),
  ([110, 111, 116], 0),
  ([98, 111, 116, 104], 0),
  ([106, 111, 105, 110], 0),
  ([115, 105, 122, 101], 0),
  ([106, 117, 109, 112], 1),
  ([98, 114, 97, 110, 99, 104], 1),
  ([110, 101, 119], 3),
  ([103, 101, 116], 6),
  ([112, 117, 116], 6),
  ([99, 97, 108, 108], 6),
  ([97, 114, 114, 97, 121], 5),
  ([97, 116], 0),
  ([115, 101, 116], 0),
  ([105, 115], 4),
  ([99, 97, 115, 116], 4),
  ([114, 101, 116, 117, 114, 110], 0),
  ([116, 104, 114, 111, 119], 0),
  ([111, 117, 116], 0),
  ([101, 113, 117, 97, 108], 0),
  ([97, 110, 100], 0),
  ([111, 114], 0),
  ([120, 111, 114], 0),
  ([115, 104, 108], 0),
  ([115, 104, 114], 0)]
def nameAt (k : Nat) : List UInt8 := (opTab.getD k ([], 0)).1
def hasAt (k : Nat) : Nat := (opTab.getD k ([], 0)).2
/-- Where a name stands; 42: nowhere. -/
def idx (s : List UInt8) : Nat := opTab.findIdx fun x => x.1 == s
def opCells : List Value := opTab.flatMap fun x => [.string (S x.1), .int .i64 (x.2 : Nat)]
theorem opTab_len : opTab.length = 42 := by decide
theorem idx_le (s : List UInt8) : idx s ≤ 42 := by
  have h := List.findIdx_le_length (xs := opTab) (p := fun x => x.1 == s)
  rw [opTab_len] at h
  exact h
theorem nameAt_get (k : Nat) (h : k < opTab.length) : nameAt k = opTab[k].1 := by
  unfold nameAt
  rw [List.getD_eq_getElem?_getD, List.getElem?_eq_getElem h]
  rfl
theorem idx_before (s : List UInt8) (j : Nat) (h : j < idx s) : (nameAt j == s) = false := by
  have hl : j < opTab.length := Nat.lt_of_lt_of_le h (by rw [opTab_len]; exact idx_le s)
  have h1 := List.not_of_lt_findIdx (p := fun x : List UInt8 × Nat => x.1 == s) (xs := opTab) h
  rw [nameAt_get j hl]
  simpa using h1
theorem idx_at (s : List UInt8) (h : idx s < 42) : (nameAt (idx s) == s) = true := by
  have hl : idx s < opTab.length := by rw [opTab_len]; exact h
  have h1 := List.findIdx_getElem (p := fun x : List UInt8 × Nat => x.1 == s) (xs := opTab) (w := hl)
  rw [nameAt_get _ hl]
  exact h1
theorem hasAt_le (k : Nat) : hasAt k ≤ 6 := by
  by_cases h : k < 42
  · exact (show ∀ k : Fin 42, hasAt k.val ≤ 6 by decide) ⟨k, h⟩
  · unfold hasAt
    rw [List.getD_eq_getElem?_getD, List.getElem?_eq_none (by rw [opTab_len]; omega)]
    decide
theorem at_end : nameAt 42 = [] ∧ hasAt 42 = 0 := by decide
def opVal (k : Nat) : Value := .agg #[.string (S (nameAt k)), .int .i64 (hasAt k : Nat)]
theorem op_index0 (w : World) : (Instr.index 49 (.agg opCells.toArray) (.int .i64 0)).run Tryd.prog w = .ok (opVal 0) w := by kernel_rfl
theorem op_index1 (w : World) : (Instr.index 49 (.agg opCells.toArray) (.int .i64 1)).run Tryd.prog w = .ok (opVal 1) w := by kernel_rfl
theorem op_index2 (w : World) : (Instr.index 49 (.agg opCells.toArray) (.int .i64 2)).run Tryd.prog w = .ok (opVal 2) w := by kernel_rfl
theorem op_index3 (w : World) : (Instr.index 49 (.agg opCells.toArray) (.int .i64 3)).run Tryd.prog w = .ok (opVal 3) w := by kernel_rfl
theorem op_index4 (w : World) : (Instr.index 49 (.agg opCells.toArray) (.int .i64 4)).run Tryd.prog w = .ok (opVal 4) w := by kernel_rfl
theorem op_index5 (w : World) : (Instr.index 49 (.agg opCells.toArray) (.int .i64 5)).run Tryd.prog w = .ok (opVal 5) w := by kernel_rfl
theorem op_index6 (w : World) : (Instr.index 49 (.agg opCells.toArray) (.int .i64 6)).run Tryd.prog w = .ok (opVal 6) w := by kernel_rfl
theorem op_index7 (w : World) : (Instr.index 49 (.agg opCells.toArray) (.int .i64 7)).run Tryd.prog w = .ok (opVal 7) w := by kernel_rfl
theorem op_index8 (w : World) : (Instr.index 49 (.agg opCells.toArray) (.int .i64 8)).run Tryd.prog w = .ok (opVal 8) w := by kernel_rfl
theorem op_index9 (w : World) : (Instr.index 49 (.agg opCells.toArray) (.int .i64 9)).run Tryd.prog w = .ok (opVal 9) w := by kernel_rfl
theorem op_index10 (w : World) : (Instr.index 49 (.agg opCells.toArray) (.int .i64 10)).run Tryd.prog w = .ok (opVal 10) w := by kernel_rfl
theorem op_index11 (w : World) : (Instr.index 49 (.agg opCells.toArray) (.int .i64 11)).run Tryd.prog w = .ok (opVal 11) w := by kernel_rfl
theorem op_index12 (w : World) : (Instr.index 49 (.agg opCells.toArray) (.int .i64 12)).run Tryd.prog w = .ok (opVal 12) w := by kernel_rfl
theorem op_index13 (w : World) : (Instr.index 49 (.agg opCells.toArray) (.int .i64 13)).run Tryd.prog w = .ok (opVal 13) w := by kernel_rfl
theorem op_index14 (w : World) : (Instr.index 49 (.agg opCells.toArray) (.int .i64 14)).run Tryd.prog w = .ok (opVal 14) w := by kernel_rfl
theorem op_index15 (w : World) : (Instr.index 49 (.agg opCells.toArray) (.int .i64 15)).run Tryd.prog w = .ok (opVal 15) w := by kernel_rfl
theorem op_index16 (w : World) : (Instr.index 49 (.agg opCells.toArray) (.int .i64 16)).run Tryd.prog w = .ok (opVal 16) w := by kernel_rfl
theorem op_index17 (w : World) : (Instr.index 49 (.agg opCells.toArray) (.int .i64 17)).run Tryd.prog w = .ok (opVal 17) w := by kernel_rfl
theorem op_index18 (w : World) : (Instr.index 49 (.agg opCells.toArray) (.int .i64 18)).run Tryd.prog w = .ok (opVal 18) w := by kernel_rfl
theorem op_index19 (w : World) : (Instr.index 49 (.agg opCells.toArray) (.int .i64 19)).run Tryd.prog w = .ok (opVal 19) w := by kernel_rfl
theorem op_index20 (w : World) : (Instr.index 49 (.agg opCells.toArray) (.int .i64 20)).run Tryd.prog w = .ok (opVal 20) w := by kernel_rfl
theorem op_index21 (w : World) : (Instr.index 49 (.agg opCells.toArray) (.int .i64 21)).run Tryd.prog w = .ok (opVal 21) w := by kernel_rfl
theorem op_index22 (w : World) : (Instr.index 49 (.agg opCells.toArray) (.int .i64 22)).run Tryd.prog w = .ok (opVal 22) w := by kernel_rfl
theorem op_index23 (w : World) : (Instr.index 49 (.agg opCells.toArray) (.int .i64 23)).run Tryd.prog w = .ok (opVal 23) w := by kernel_rfl
theorem op_index24 (w : World) : (Instr.index 49 (.agg opCells.toArray) (.int .i64 24)).run Tryd.prog w = .ok (opVal 24) w := by kernel_rfl
theorem op_index25 (w : World) : (Instr.index 49 (.agg opCells.toArray) (.int .i64 25)).run Tryd.prog w = .ok (opVal 25) w := by kernel_rfl
theorem op_index26 (w : World) : (Instr.index 49 (.agg opCells.toArray) (.int .i64 26)).run Tryd.prog w = .ok (opVal 26) w := by kernel_rfl
theorem op_index27 (w : World) : (Instr.index 49 (.agg opCells.toArray) (.int .i64 27)).run Tryd.prog w = .ok (opVal 27) w := by kernel_rfl
theorem op_index28 (w : World) : (Instr.index 49 (.agg opCells.toArray) (.int .i64 28)).run Tryd.prog w = .ok (opVal 28) w := by kernel_rfl
theorem op_index29 (w : World) : (Instr.index 49 (.agg opCells.toArray) (.int .i64 29)).run Tryd.prog w = .ok (opVal 29) w := by kernel_rfl
theorem op_index30 (w : World) : (Instr.index 49 (.agg opCells.toArray) (.int .i64 30)).run Tryd.prog w = .ok (opVal 30) w := by kernel_rfl
theorem op_index31 (w : World) : (Instr.index 49 (.agg opCells.toArray) (.int .i64 31)).run Tryd.prog w = .ok (opVal 31) w := by kernel_rfl
theorem op_index32 (w : World) : (Instr.index 49 (.agg opCells.toArray) (.int .i64 32)).run Tryd.prog w = .ok (opVal 32) w := by kernel_rfl
theorem op_index33 (w : World) : (Instr.index 49 (.agg opCells.toArray) (.int .i64 33)).run Tryd.prog w = .ok (opVal 33) w := by kernel_rfl
theorem op_index34 (w : World) : (Instr.index 49 (.agg opCells.toArray) (.int .i64 34)).run Tryd.prog w = .ok (opVal 34) w := by kernel_rfl
theorem op_index35 (w : World) : (Instr.index 49 (.agg opCells.toArray) (.int .i64 35)).run Tryd.prog w = .ok (opVal 35) w := by kernel_rfl
theorem op_index36 (w : World) : (Instr.index 49 (.agg opCells.toArray) (.int .i64 36)).run Tryd.prog w = .ok (opVal 36) w := by kernel_rfl
theorem op_index37 (w : World) : (Instr.index 49 (.agg opCells.toArray) (.int .i64 37)).run Tryd.prog w = .ok (opVal 37) w := by kernel_rfl
theorem op_index38 (w : World) : (Instr.index 49 (.agg opCells.toArray) (.int .i64 38)).run Tryd.prog w = .ok (opVal 38) w := by kernel_rfl
theorem op_index39 (w : World) : (Instr.index 49 (.agg opCells.toArray) (.int .i64 39)).run Tryd.prog w = .ok (opVal 39) w := by kernel_rfl
theorem op_index40 (w : World) : (Instr.index 49 (.agg opCells.toArray) (.int .i64 40)).run Tryd.prog w = .ok (opVal 40) w := by kernel_rfl
theorem op_index41 (w : World) : (Instr.index 49 (.agg opCells.toArray) (.int .i64 41)).run Tryd.prog w = .ok (opVal 41) w := by kernel_rfl
theorem op_index (k : Nat) (hk : k < 42) (w : World) : (Instr.index 49 (.agg opCells.toArray) (.int .i64 (k : Nat))).run Tryd.prog w = .ok (.agg #[.string (S (nameAt k)), .int .i64 (hasAt k : Nat)]) w :=
  match k, hk with
  | 0, _ => op_index0 w
  | 1, _ => op_index1 w
  | 2, _ => op_index2 w
  | 3, _ => op_index3 w
  | 4, _ => op_index4 w
  | 5, _ => op_index5 w
  | 6, _ => op_index6 w
  | 7, _ => op_index7 w
  | 8, _ => op_index8 w
  | 9, _ => op_index9 w
  | 10, _ => op_index10 w
  | 11, _ => op_index11 w
  | 12, _ => op_index12 w
  | 13, _ => op_index13 w
  | 14, _ => op_index14 w
  | 15, _ => op_index15 w
  | 16, _ => op_index16 w
  | 17, _ => op_index17 w
  | 18, _ => op_index18 w
  | 19, _ => op_index19 w
  | 20, _ => op_index20 w
  | 21, _ => op_index21 w
  | 22, _ => op_index22 w
  | 23, _ => op_index23 w
  | 24, _ => op_index24 w
  | 25, _ => op_index25 w
  | 26, _ => op_index26 w
  | 27, _ => op_index27 w
  | 28, _ => op_index28 w
  | 29, _ => op_index29 w
  | 30, _ => op_index30 w
  | 31, _ => op_index31 w
  | 32, _ => op_index32 w
  | 33, _ => op_index33 w
  | 34, _ => op_index34 w
  | 35, _ => op_index35 w
  | 36, _ => op_index36 w
  | 37, _ => op_index37 w
  | 38, _ => op_index38 w
  | 39, _ => op_index39 w
  | 40, _ => op_index40 w
  | 41, _ => op_index41 w
  | n + 42, h => absurd h (by omega)
end Go.Proofs.YtcoobdbfgiiejaaDoor
