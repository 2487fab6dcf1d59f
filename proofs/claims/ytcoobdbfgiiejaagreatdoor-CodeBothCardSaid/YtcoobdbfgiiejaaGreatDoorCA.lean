/-
  Plain mathematics of layer 4: the forty-two operators, where a name stands among them, what each has.
  Conditions: none; the last laws speak of how the program's table is read at an index.
  The contracts of package code's find and named (with its closure), and of isText.
  Conditions: the table of operators holds what it holds at the start.
  The contracts of strings.Contains at a line feed, and of package code's allows, Check and Takes.
  Conditions: the tables of operators and of unicode/utf8 hold what they hold at the start; texts have at most 2^40 bytes.
  The contracts of the document's Ops, Number and Takes of layer 4.
  Conditions: none of their own.
  The contract of package code's Ops: a new list of all operators' names.
  Conditions: the table of operators holds what it holds at the start.
-/
import Derived.Test.YtcoobdbfgiiejaaGreatDoorS
import Derived.Test.YtcoobdbfgiiejaaGreatDoorProg
import Derived.KernelRfl
import Derived.Test.YtcoobdbfgiiejaaGreatDoorStr
import Derived.Deep.MidRow
import Derived.Deep.QuietTactic
import Derived.BigQuiet
import Derived.Deep.Cut
import Derived.IntWalk
import Derived.Test.YtcoobdbfgiiejaaGreatDoorKElem
import Derived.Test.YtcoobdbfgiiejaaGreatDoorText
import Derived.Laws.MakeOwn
namespace Go.Proofs.YtcoobdbfgiiejaaGreatDoor
open Go.RowKit
/-- The operators in order: the name, and what it has (0 nothing, 1 a number, 2 a word, 3 a class, 4 a reference, 5 an element's kind, 6 a member). -/
def opTab : List (List UInt8 × Nat) := [
  ([105, 110, 116], 1),
  ([116, 114, 117, 101], 0),
  ([102, 97, 108, 115, 101], 0),
  ([119, 111, 114, 100], 2),
  ([110, 117, 108, 108], 0),
  ([108, 111, 97, 100], 1),
  ([115, 116, 111, 114, 101], 1),
  ([112, 111, 112], 0),
  ([100, 117, 112], 0),
  ([115, 119, 97, 112], 0),
  ([97, 100, 100], 0),
  ([115, 117, 98], 0),
  ([109, 117, 108], 0),
  ([100, 105, 118], 0),
  ([114, 101, 109], 0),
  ([110, 101, 103], 0),
  ([108, 101, 115, 115], 0),
  ([115, 97, 109, 101], 0),
  ([110, 111, 116], 0),
  ([98, 111, 116, 104], 0),
  ([106, 111, 105, 110], 0),
  ([115, 105, 122, 101], 0),
  ([106, 117, 109, 112], 1),
  ([98, 114, 97, 110, 99, 104], 1),
  ([110, 101, 119], 3),
  ([103, 101, 116], 6),
  ([112, 117, 116], 6),
  ([99, 97, 108, 108], 6),
  ([97, 114, 114, 97, 121], 5),
  ([97, 116], 0),
  ([115, 101, 116], 0),
  ([105, 115], 4),
  ([99, 97, 115, 116], 4),
  ([114, 101, 116, 117, 114, 110], 0),
  ([116, 104, 114, 111, 119], 0),
  ([111, 117, 116], 0),
  ([101, 113, 117, 97, 108], 0),
  ([97, 110, 100], 0),
  ([111, 114], 0),
  ([120, 111, 114], 0),
  ([115, 104, 108], 0),
  ([115, 104, 114], 0)]
def nameAt (k : Nat) : List UInt8 := (opTab.getD k ([], 0)).1
def hasAt (k : Nat) : Nat := (opTab.getD k ([], 0)).2
/-- Where a name stands; 42: nowhere. -/
def idx (s : List UInt8) : Nat := opTab.findIdx fun x => x.1 == s
def opCells : List Value := opTab.flatMap fun x => [.string (S x.1), .int .i64 (x.2 : Nat)]
theorem opTab_len : opTab.length = 42 := by decide
theorem idx_le (s : List UInt8) : idx s ≤ 42 := by
  have h := List.findIdx_le_length (xs := opTab) (p := fun x => x.1 == s)
  rw [opTab_len] at h
  exact h
theorem nameAt_get (k : Nat) (h : k < opTab.length) : nameAt k = opTab[k].1 := by
  unfold nameAt
  rw [List.getD_eq_getElem?_getD, List.getElem?_eq_getElem h]
  rfl
theorem idx_before (s : List UInt8) (j : Nat) (h : j < idx s) : (nameAt j == s) = false := by
  have hl : j < opTab.length := Nat.lt_of_lt_of_le h (by rw [opTab_len]; exact idx_le s)
  have h1 := List.not_of_lt_findIdx (p := fun x : List UInt8 × Nat => x.1 == s) (xs := opTab) h
  rw [nameAt_get j hl]
  simpa using h1
theorem idx_at (s : List UInt8) (h : idx s < 42) : (nameAt (idx s) == s) = true := by
  have hl : idx s < opTab.length := by rw [opTab_len]; exact h
  have h1 := List.findIdx_getElem (p := fun x : List UInt8 × Nat => x.1 == s) (xs := opTab) (w := hl)
  rw [nameAt_get _ hl]
  exact h1
theorem hasAt_le (k : Nat) : hasAt k ≤ 6 := by
  by_cases h : k < 42
  · exact (show ∀ k : Fin 42, hasAt k.val ≤ 6 by decide) ⟨k, h⟩
  · unfold hasAt
    rw [List.getD_eq_getElem?_getD, List.getElem?_eq_none (by rw [opTab_len]; omega)]
    decide
theorem at_end : nameAt 42 = [] ∧ hasAt 42 = 0 := by decide
def opVal (k : Nat) : Value := .agg #[.string (S (nameAt k)), .int .i64 (hasAt k : Nat)]
theorem op_index0 (w : World) : (Instr.index 96 (.agg opCells.toArray) (.int .i64 0)).run Tryz.prog w = .ok (opVal 0) w := by kernel_rfl
theorem op_index1 (w : World) : (Instr.index 96 (.agg opCells.toArray) (.int .i64 1)).run Tryz.prog w = .ok (opVal 1) w := by kernel_rfl
theorem op_index2 (w : World) : (Instr.index 96 (.agg opCells.toArray) (.int .i64 2)).run Tryz.prog w = .ok (opVal 2) w := by kernel_rfl
theorem op_index3 (w : World) : (Instr.index 96 (.agg opCells.toArray) (.int .i64 3)).run Tryz.prog w = .ok (opVal 3) w := by kernel_rfl
theorem op_index4 (w : World) : (Instr.index 96 (.agg opCells.toArray) (.int .i64 4)).run Tryz.prog w = .ok (opVal 4) w := by kernel_rfl
theorem op_index5 (w : World) : (Instr.index 96 (.agg opCells.toArray) (.int .i64 5)).run Tryz.prog w = .ok (opVal 5) w := by kernel_rfl
theorem op_index6 (w : World) : (Instr.index 96 (.agg opCells.toArray) (.int .i64 6)).run Tryz.prog w = .ok (opVal 6) w := by kernel_rfl
theorem op_index7 (w : World) : (Instr.index 96 (.agg opCells.toArray) (.int .i64 7)).run Tryz.prog w = .ok (opVal 7) w := by kernel_rfl
theorem op_index8 (w : World) : (Instr.index 96 (.agg opCells.toArray) (.int .i64 8)).run Tryz.prog w = .ok (opVal 8) w := by kernel_rfl
theorem op_index9 (w : World) : (Instr.index 96 (.agg opCells.toArray) (.int .i64 9)).run Tryz.prog w = .ok (opVal 9) w := by kernel_rfl
theorem op_index10 (w : World) : (Instr.index 96 (.agg opCells.toArray) (.int .i64 10)).run Tryz.prog w = .ok (opVal 10) w := by kernel_rfl
theorem op_index11 (w : World) : (Instr.index 96 (.agg opCells.toArray) (.int .i64 11)).run Tryz.prog w = .ok (opVal 11) w := by kernel_rfl
theorem op_index12 (w : World) : (Instr.index 96 (.agg opCells.toArray) (.int .i64 12)).run Tryz.prog w = .ok (opVal 12) w := by kernel_rfl
theorem op_index13 (w : World) : (Instr.index 96 (.agg opCells.toArray) (.int .i64 13)).run Tryz.prog w = .ok (opVal 13) w := by kernel_rfl
theorem op_index14 (w : World) : (Instr.index 96 (.agg opCells.toArray) (.int .i64 14)).run Tryz.prog w = .ok (opVal 14) w := by kernel_rfl
theorem op_index15 (w : World) : (Instr.index 96 (.agg opCells.toArray) (.int .i64 15)).run Tryz.prog w = .ok (opVal 15) w := by kernel_rfl
theorem op_index16 (w : World) : (Instr.index 96 (.agg opCells.toArray) (.int .i64 16)).run Tryz.prog w = .ok (opVal 16) w := by kernel_rfl
theorem op_index17 (w : World) : (Instr.index 96 (.agg opCells.toArray) (.int .i64 17)).run Tryz.prog w = .ok (opVal 17) w := by kernel_rfl
theorem op_index18 (w : World) : (Instr.index 96 (.agg opCells.toArray) (.int .i64 18)).run Tryz.prog w = .ok (opVal 18) w := by kernel_rfl
theorem op_index19 (w : World) : (Instr.index 96 (.agg opCells.toArray) (.int .i64 19)).run Tryz.prog w = .ok (opVal 19) w := by kernel_rfl
theorem op_index20 (w : World) : (Instr.index 96 (.agg opCells.toArray) (.int .i64 20)).run Tryz.prog w = .ok (opVal 20) w := by kernel_rfl
theorem op_index21 (w : World) : (Instr.index 96 (.agg opCells.toArray) (.int .i64 21)).run Tryz.prog w = .ok (opVal 21) w := by kernel_rfl
theorem op_index22 (w : World) : (Instr.index 96 (.agg opCells.toArray) (.int .i64 22)).run Tryz.prog w = .ok (opVal 22) w := by kernel_rfl
theorem op_index23 (w : World) : (Instr.index 96 (.agg opCells.toArray) (.int .i64 23)).run Tryz.prog w = .ok (opVal 23) w := by kernel_rfl
theorem op_index24 (w : World) : (Instr.index 96 (.agg opCells.toArray) (.int .i64 24)).run Tryz.prog w = .ok (opVal 24) w := by kernel_rfl
theorem op_index25 (w : World) : (Instr.index 96 (.agg opCells.toArray) (.int .i64 25)).run Tryz.prog w = .ok (opVal 25) w := by kernel_rfl
theorem op_index26 (w : World) : (Instr.index 96 (.agg opCells.toArray) (.int .i64 26)).run Tryz.prog w = .ok (opVal 26) w := by kernel_rfl
theorem op_index27 (w : World) : (Instr.index 96 (.agg opCells.toArray) (.int .i64 27)).run Tryz.prog w = .ok (opVal 27) w := by kernel_rfl
theorem op_index28 (w : World) : (Instr.index 96 (.agg opCells.toArray) (.int .i64 28)).run Tryz.prog w = .ok (opVal 28) w := by kernel_rfl
theorem op_index29 (w : World) : (Instr.index 96 (.agg opCells.toArray) (.int .i64 29)).run Tryz.prog w = .ok (opVal 29) w := by kernel_rfl
theorem op_index30 (w : World) : (Instr.index 96 (.agg opCells.toArray) (.int .i64 30)).run Tryz.prog w = .ok (opVal 30) w := by kernel_rfl
theorem op_index31 (w : World) : (Instr.index 96 (.agg opCells.toArray) (.int .i64 31)).run Tryz.prog w = .ok (opVal 31) w := by kernel_rfl
theorem op_index32 (w : World) : (Instr.index 96 (.agg opCells.toArray) (.int .i64 32)).run Tryz.prog w = .ok (opVal 32) w := by kernel_rfl
theorem op_index33 (w : World) : (Instr.index 96 (.agg opCells.toArray) (.int .i64 33)).run Tryz.prog w = .ok (opVal 33) w := by kernel_rfl
theorem op_index34 (w : World) : (Instr.index 96 (.agg opCells.toArray) (.int .i64 34)).run Tryz.prog w = .ok (opVal 34) w := by kernel_rfl
theorem op_index35 (w : World) : (Instr.index 96 (.agg opCells.toArray) (.int .i64 35)).run Tryz.prog w = .ok (opVal 35) w := by kernel_rfl
theorem op_index36 (w : World) : (Instr.index 96 (.agg opCells.toArray) (.int .i64 36)).run Tryz.prog w = .ok (opVal 36) w := by kernel_rfl
theorem op_index37 (w : World) : (Instr.index 96 (.agg opCells.toArray) (.int .i64 37)).run Tryz.prog w = .ok (opVal 37) w := by kernel_rfl
theorem op_index38 (w : World) : (Instr.index 96 (.agg opCells.toArray) (.int .i64 38)).run Tryz.prog w = .ok (opVal 38) w := by kernel_rfl
theorem op_index39 (w : World) : (Instr.index 96 (.agg opCells.toArray) (.int .i64 39)).run Tryz.prog w = .ok (opVal 39) w := by kernel_rfl
theorem op_index40 (w : World) : (Instr.index 96 (.agg opCells.toArray) (.int .i64 40)).run Tryz.prog w = .ok (opVal 40) w := by kernel_rfl
theorem op_index41 (w : World) : (Instr.index 96 (.agg opCells.toArray) (.int .i64 41)).run Tryz.prog w = .ok (opVal 41) w := by kernel_rfl
theorem op_index (k : Nat) (hk : k < 42) (w : World) : (Instr.index 96 (.agg opCells.toArray) (.int .i64 (k : Nat))).run Tryz.prog w = .ok (.agg #[.string (S (nameAt k)), .int .i64 (hasAt k : Nat)]) w :=
  match k, hk with
  | 0, _ => op_index0 w
  | 1, _ => op_index1 w
  | 2, _ => op_index2 w
  | 3, _ => op_index3 w
  | 4, _ => op_index4 w
  | 5, _ => op_index5 w
  | 6, _ => op_index6 w
  | 7, _ => op_index7 w
  | 8, _ => op_index8 w
  | 9, _ => op_index9 w
  | 10, _ => op_index10 w
  | 11, _ => op_index11 w
  | 12, _ => op_index12 w
  | 13, _ => op_index13 w
  | 14, _ => op_index14 w
  | 15, _ => op_index15 w
  | 16, _ => op_index16 w
  | 17, _ => op_index17 w
  | 18, _ => op_index18 w
  | 19, _ => op_index19 w
  | 20, _ => op_index20 w
  | 21, _ => op_index21 w
  | 22, _ => op_index22 w
  | 23, _ => op_index23 w
  | 24, _ => op_index24 w
  | 25, _ => op_index25 w
  | 26, _ => op_index26 w
  | 27, _ => op_index27 w
  | 28, _ => op_index28 w
  | 29, _ => op_index29 w
  | 30, _ => op_index30 w
  | 31, _ => op_index31 w
  | 32, _ => op_index32 w
  | 33, _ => op_index33 w
  | 34, _ => op_index34 w
  | 35, _ => op_index35 w
  | 36, _ => op_index36 w
  | 37, _ => op_index37 w
  | 38, _ => op_index38 w
  | 39, _ => op_index39 w
  | 40, _ => op_index40 w
  | 41, _ => op_index41 w
  | n + 42, h => absurd h (by omega)
end Go.Proofs.YtcoobdbfgiiejaaGreatDoor
namespace Go.Proofs.YtcoobdbfgiiejaaGreatDoor
open Go.RowKit
/-- The table of operators is as at the start. -/
def OpTab (w : World) : Prop := w.rangeAt 0 0 opCells
theorem OpTab.keep {w w' : World} (h : OpTab w) (hb : Below w.heap.size w w') : OpTab w' := fun j v hj =>
  (Only.ofBelow (S := fun _ => False) hb).cell (h j v hj) id
theorem range2 {w : World} {b : Nat} {x y : Value} {t : TypeId} {fz : Nat × Nat} (h : w.heap[b]? = some (.cells #[x, y] t fz)) : w.rangeAt b 0 [x, y] := by
  intro j v hj
  match j, hj with
  | 0, hj => simp at hj; subst hj; simp [World.cell?, h]
  | 1, hj => simp at hj; subst hj; simp [World.cell?, h]
  | j + 2, hj => simp at hj
theorem set2 {w : World} {b : Nat} {x y u v : Value} {t : TypeId} {fz : Nat × Nat} (h : w.heap[b]? = some (.cells #[x, y] t fz)) : ((w.setCell ⟨b, 0, none⟩ u).setCell ⟨b, 1, none⟩ v).heap[b]? = some (.cells #[u, v] t fz) := by
  rw [heap_setCell_self (heap_setCell_self h)]
  rfl
theorem info_op2 : (Tryz.prog.info? 59).map (·.size) = some 2 := by kernel_rfl
/-- What a result cell of an operator's type holds when the call returns. -/
theorem load_op {w : World} {b : Nat} {x y : Value} {t : TypeId} {fz : Nat × Nat} (h : w.heap[b]? = some (.cells #[x, y] t fz)) : (loadVar 59 ⟨b, 0, none⟩).run Tryz.prog w = .ok (.agg #[x, y]) w :=
  run_loadVar_mid (P := Tryz.prog) w b 0 59 [x, y] _ (range2 h) Tryz.underlying59 rfl info_op2
theorem info_ops : (Tryz.prog.info? 96).map (·.size) = some opCells.length := by kernel_rfl
set_option maxHeartbeats 2000000 in
set_option maxRecDepth 100000 in
theorem find_any (F : Nat) (cp : Value) (p : Nat → Bool) (N : Nat) (he : ∀ args w, (callFunc F args).run Tryz.prog w = .ok (.enter F args) w)
    (w : World) (hO : OpTab w)
    (hF : ∀ (k : Nat) (w' : World), k < 42 → Below w.heap.size w w' → Calls Tryz.prog F #[.int .i64 k, .agg #[.string (S (nameAt k)), .int .i64 (hasAt k : Nat)], cp] w' fun e w'' => e = .returned (.bool (p k)) ∧ Below w'.heap.size w' w'')
    (hN : N ≤ 42) (hlo : ∀ j, j < N → p j = false) (hat : N < 42 → p N = true) :
    Calls Tryz.prog 82 #[.func (.func F) #[] #[cp]] w fun e w' => e = .returned (.tuple #[.int .i64 (if N < 42 then N else 0 : Nat), .agg #[.string (S (nameAt N)), .int .i64 (hasAt N : Nat)], .bool (decide (N < 42))]) ∧ Below w.heap.size w w' := by
  have HF := Lib.hid hF
  have HLO := Lib.hid hlo
  have HAT := Lib.hid hat
  have HO := Lib.hid hO
  have HE := Lib.hid he
  have HI := Lib.hid info_ops
  clear hF hlo hat hO he
  go_enter Tryz.func82, Tryz.ntmps82
  go_upto_region 1 with fail
  refine wp_region_lit ?_
  refine wpList_load_mid (by rfl) 96 _ (by rfl) 0 0 (by rfl) opCells _ (HO.out.keep ((Below.refl _ w).alloc (Nat.le_refl _) _)) Tryz.underlying96 (by rfl) HI.out ?_
  go_wp2
  go_loopw [8] (fun v8 wr => ∃ k : Nat, k ≤ N ∧ v8 = .int .i64 k ∧ wr.heap[w.heap.size]? = some (.cells #[.string ⟨#[]⟩, .int .i64 0] 59 (0, 0)) ∧ Below w.heap.size w wr) (fun v8 _ => 42 - (intOf v8).toNat)
  case atStart => exact ⟨0, Nat.zero_le _, rfl, heap_alloc_new w _, (Below.refl _ w).alloc (Nat.le_refl _) _⟩
  case round =>
    obtain ⟨k, hk, rfl, hblk, hbel⟩ := hrel
    by_cases hlt : k < 42
    · have hlt' : (k : Int) < 42 := by omega
      have hk0 : (0 : Int) ≤ k := by omega
      have hix := op_index k hlt
      have he := HE.out
      have HB := Lib.hid hblk
      clear hblk
      go_wp2_with fail
      have hbA : Below w.heap.size w (wr.alloc (.cells #[.string (S (nameAt k)), .int .i64 (hasAt k : Nat)] 59)) := hbel.alloc hbel.size _
      refine (HF.out k _ hlt hbA).mono ?_
      rintro e w1 ⟨rfl, hb1⟩
      have hres : w1.heap[w.heap.size]? = some (.cells #[.string ⟨#[]⟩, .int .i64 0] 59 (0, 0)) := (Only.ofBelow (S := fun _ => False) hb1).heap (((Only.refl (fun _ => False) wr).alloc _).heap HB.out id) id
      have hnew : w1.heap[wr.heap.size]? = some (.cells #[.string (S (nameAt k)), .int .i64 (hasAt k : Nat)] 59 (0, 0)) := (Only.ofBelow (S := fun _ => False) hb1).heap (heap_alloc_new wr _) id
      have hbw : Below w.heap.size w w1 := hbA.trans (hb1.mono hbA.size)
      clear he hix hb1 hbA
      by_cases hkn : k < N
      · rw [HLO.out k hkn]
        have HR := Lib.hid hres
        clear hres hnew
        go_wp2
        go_roundw
        case rel => exact ⟨k + 1, by omega, by go_num, HR.out, hbw⟩
        case measure => simp [intOf]; omega
      · obtain rfl : k = N := by omega
        rw [HAT.out hlt]
        have hf0 : w1.frozen? ⟨w.heap.size, 0, none⟩ = false := by simp [World.frozen?, hres]
        have hf1 : w1.frozen? ⟨w.heap.size, 1, none⟩ = false := by simp [World.frozen?, hres]
        have hc0 : w1.cell? ⟨w.heap.size, 0, none⟩ = some (.string ⟨#[]⟩) := by simp [World.cell?, hres]
        have hc1 : w1.cell? ⟨w.heap.size, 1, none⟩ = some (.int .i64 0) := by simp [World.cell?, hres]
        have hn0 : w1.cell? ⟨wr.heap.size, 0, none⟩ = some (.string (S (nameAt k))) := by simp [World.cell?, hnew]
        have hn1 : w1.cell? ⟨wr.heap.size, 1, none⟩ = some (.int .i64 (hasAt k : Nat)) := by simp [World.cell?, hnew]
        have HR := Lib.hid hres
        clear hres hnew
        go_wp2_with go_region
        have hl := load_op (w := ((w1.setCell ⟨w.heap.size, 0, none⟩ (.string (S (nameAt k)))).setCell ⟨w.heap.size, 1, none⟩ (.int .i64 (hasAt k : Nat))).drew) (set2 HR.out)
        refine bodyPost_ret (v := .tuple #[.int .i64 (k : Nat), .agg #[.string (S (nameAt k)), .int .i64 (hasAt k : Nat)], .bool true]) ?_ rfl ⟨rfl, ?_⟩
        · simp [results, Tryz.results82, asAddr, hl]
        · exact ((hbw.setCell (by simp) _).setCell (by simp) _).drew
    · obtain rfl : k = 42 := by omega
      obtain rfl : N = 42 := by omega
      have hf0 : wr.frozen? ⟨w.heap.size, 0, none⟩ = false := by simp [World.frozen?, hblk]
      have hf1 : wr.frozen? ⟨w.heap.size, 1, none⟩ = false := by simp [World.frozen?, hblk]
      have hc0 : wr.cell? ⟨w.heap.size, 0, none⟩ = some (.string ⟨#[]⟩) := by simp [World.cell?, hblk]
      have hc1 : wr.cell? ⟨w.heap.size, 1, none⟩ = some (.int .i64 0) := by simp [World.cell?, hblk]
      have HR := Lib.hid hblk
      clear hblk
      go_wp2
      have hl := load_op (w := (wr.setCell ⟨w.heap.size, 0, none⟩ (.string ⟨#[]⟩)).setCell ⟨w.heap.size, 1, none⟩ (.int .i64 0)) (set2 HR.out)
      refine bodyPost_ret (v := .tuple #[.int .i64 0, .agg #[.string (S (nameAt 42)), .int .i64 (hasAt 42 : Nat)], .bool false]) ?_ rfl ⟨rfl, ?_⟩
      · rw [at_end.1, at_end.2]
        simp [results, Tryz.results82, asAddr, hl, S]
      · exact (hbel.setCell (by simp) _).setCell (by simp) _

theorem enters_cf {f : FuncId} {fn : Func} {c : Code} (hf : Tryz.prog.funcs[f]? = some fn) (hname : (fn.name == "runtime.NumGoroutine") = false) (hb : fn.body = some c) (args : Array Value) (w : World) : (callFunc f args).run Tryz.prog w = .ok (.enter f args) w := by
  have h1 : ¬ (fn.name = "runtime.NumGoroutine") := by simpa using hname
  simp [callFunc, hf, h1, hb, mark]
set_option maxHeartbeats 2000000 in
set_option maxRecDepth 100000 in
theorem named1_any (k b : Nat) (a s : List UInt8) (h : Int) (w : World) (hc : w.cell? ⟨b, 0, none⟩ = some (.string (S s))) :
    Calls Tryz.prog 83 #[.int .i64 k, .agg #[.string (S a), .int .i64 h], .pointer (some ⟨b, 0, none⟩)] w fun e w' => e = .returned (.bool (a == s)) ∧ Below w.heap.size w w' := by
  have hcA : ∀ o : Obj, (w.alloc o).cell? ⟨b, 0, none⟩ = some (.string (S s)) := fun o => ((Only.refl (fun _ => False) w).alloc o).cell hc id
  clear hc
  go_enter Tryz.func83, Tryz.ntmps83
  go_wp2
  go_ret
  refine ⟨?_, (Below.refl _ w).alloc (Nat.le_refl _) _⟩
  show Ending.returned (.bool ((S a).toList == (S s).toList)) = _
  rw [S_toList, S_toList]
/-- What looking a name up answers. -/
def lookV (s : List UInt8) : Value := .tuple #[.int .i64 (if idx s < 42 then idx s else 0 : Nat), .agg #[.string (S (nameAt (idx s))), .int .i64 (hasAt (idx s) : Nat)], .bool (decide (idx s < 42))]
set_option maxHeartbeats 2000000 in
set_option maxRecDepth 100000 in
theorem cnamed_any (s : List UInt8) (w : World) (hO : OpTab w) :
    Calls Tryz.prog 57 #[.string (S s)] w fun e w' => e = .returned (lookV s) ∧ Below w.heap.size w w' := by
  have hmf : ∀ (fn : Fn) (first cap : Array Value) (w : World), (Instr.makeFunc fn first cap).run Tryz.prog w = .ok (.func fn first cap) w := fun _ _ _ _ => rfl
  have HO := Lib.hid hO
  clear hO
  unfold lookV
  obtain ⟨q, hq⟩ : ∃ q, q = (if idx s < 42 then idx s else 0) := ⟨_, rfl⟩
  obtain ⟨d, hd⟩ : ∃ d, d = decide (idx s < 42) := ⟨_, rfl⟩
  rw [← hq, ← hd]
  have HQ := Lib.hid hq
  have HD := Lib.hid hd
  clear hq hd
  go_enter Tryz.func57, Tryz.ntmps57
  go_wp2_with fail
  have hb0 : Below w.heap.size w ((w.alloc (.cells #[.string (S s)] 9)).alloc (.cells #[.string ⟨#[]⟩, .int .i64 0] 59)) := ((Below.refl _ w).alloc (Nat.le_refl _) _).alloc (by simp) _
  have hc0 : ((w.alloc (.cells #[.string (S s)] 9)).alloc (.cells #[.string ⟨#[]⟩, .int .i64 0] 59)).heap[w.heap.size]? = some (.cells #[.string (S s)] 9 (0, 0)) := ((Only.refl (fun _ => False) _).alloc _).heap (heap_alloc_new w _) id
  have hr0 : ((w.alloc (.cells #[.string (S s)] 9)).alloc (.cells #[.string ⟨#[]⟩, .int .i64 0] 59)).heap[w.heap.size + 1]? = some (.cells #[.string ⟨#[]⟩, .int .i64 0] 59 (0, 0)) := (heap_alloc_new' (w.alloc _) _ _ (by simp)).trans rfl
  generalize hw0 : (w.alloc (.cells #[.string (S s)] 9)).alloc (.cells #[.string ⟨#[]⟩, .int .i64 0] 59) = w0 at hb0 hc0 hr0 ⊢
  clear hw0
  have hfind := find_any 83 (.pointer (some ⟨w.heap.size, 0, none⟩)) (fun k => nameAt k == s) (idx s) (enters_cf Tryz.func83 (by kernel_rfl) rfl) w0 (HO.out.keep hb0)
    (fun k w' _ hb => named1_any k _ _ s _ w' (by simp [World.cell?, (Only.ofBelow (S := fun _ => False) hb).heap hc0 id])) (idx_le s) (fun j hj => idx_before s j hj) (fun h => idx_at s h)
  rw [← HQ.out, ← HD.out] at hfind
  refine hfind.mono ?_
  clear hfind
  rintro e w1 ⟨rfl, hb1⟩
  have hr1 : w1.heap[w.heap.size + 1]? = some (.cells #[.string ⟨#[]⟩, .int .i64 0] 59 (0, 0)) := (Only.ofBelow (S := fun _ => False) hb1).heap hr0 id
  have hbw : Below w.heap.size w w1 := hb0.trans (hb1.mono hb0.size)
  clear hb1 hb0 hc0 hr0
  have hf0 : w1.frozen? ⟨w.heap.size + 1, 0, none⟩ = false := by simp [World.frozen?, hr1]
  have hf1 : w1.frozen? ⟨w.heap.size + 1, 1, none⟩ = false := by simp [World.frozen?, hr1]
  have hd0 : w1.cell? ⟨w.heap.size + 1, 0, none⟩ = some (.string ⟨#[]⟩) := by simp [World.cell?, hr1]
  have hd1 : w1.cell? ⟨w.heap.size + 1, 1, none⟩ = some (.int .i64 0) := by simp [World.cell?, hr1]
  have HR := Lib.hid hr1
  clear hr1
  go_wp2
  have hl := load_op (w := (w1.setCell ⟨w.heap.size + 1, 0, none⟩ (.string (S (nameAt (idx s))))).setCell ⟨w.heap.size + 1, 1, none⟩ (.int .i64 (hasAt (idx s) : Nat))) (set2 HR.out)
  refine bodyPost_ret (v := .tuple #[.int .i64 (q : Nat), .agg #[.string (S (nameAt (idx s))), .int .i64 (hasAt (idx s) : Nat)], .bool d]) ?_ rfl ⟨rfl, ?_⟩
  · simp [results, Tryz.results57, asAddr, hl]
  · exact (hbw.setCell (by simp) _).setCell (by simp) _
/-- Has it a text? -/
theorem istext_any (h : Nat) (w : World) : Calls Tryz.prog 30 #[.int .i64 h] w fun e w' => e = .returned (.bool (decide (2 ≤ h))) ∧ w = w' := by
  go_enter Tryz.func30, Tryz.ntmps30
  go_wp2
  go_ret
  have hd : decide ((2 : Int) ≤ (h : Int)) = decide (2 ≤ h) := decide_eq_decide.2 (by omega)
  refine ⟨?_, rfl⟩
  show Ending.returned (.bool (decide ((2 : Int) ≤ (h : Int)))) = _
  rw [hd]
end Go.Proofs.YtcoobdbfgiiejaaGreatDoor
namespace Go.Proofs.YtcoobdbfgiiejaaGreatDoor
open Go.RowKit
/-- Both tables of unicode/utf8 and the table of operators are as at the start. -/
structure CT (w : World) : Prop where
  tabs : Tabs w
  ops : OpTab w
theorem CT.keep {w w' : World} (h : CT w) (hb : Below w.heap.size w w') : CT w' := ⟨Utf8Tabs_below h.tabs hb, h.ops.keep hb⟩
set_option maxHeartbeats 2000000 in
set_option maxRecDepth 100000 in
theorem indexlf_any (s : ByteArray) (w : World) :
    Calls Tryz.prog 112 #[.string s, .string ⟨#[10]⟩] w fun e w' => e = .returned (.int .i64 (Lib.indexByte s.data.toList 10)) ∧ w = w' := by
  go_enter Tryz.func112, Tryz.ntmps112
  go_wp2_with (go_at_call 93; refine (indexbyte_any _ _ _).mono ?_; rintro e w' ⟨rfl, rfl⟩)
  · have h : ([10] == s.toList) = true := by assumption
    go_ret
    refine ⟨?_, rfl⟩
    have e : s.data.toList = [10] := by rw [← Lib.toList_data]; exact (beq_iff_eq.1 h).symm
    rw [e]
    simp [Lib.indexByte]
  · go_ret
    exact ⟨rfl, rfl⟩
theorem indexByte_has (l : List UInt8) (c : UInt8) : decide (0 ≤ Lib.indexByte l c) = l.contains c := by
  induction l with
  | nil => rfl
  | cons b l ih =>
    have h1 := Lib.indexByte_ge l c
    rw [Lib.indexByte, List.contains_cons, ← ih]
    cases hb : (b == c) with
    | true =>
      have : (c == b) = true := by rw [beq_iff_eq] at hb ⊢; exact hb.symm
      simp [this]
    | false =>
      have : (c == b) = false := by rw [beq_eq_false_iff_ne] at hb ⊢; exact fun h => hb h.symm
      rw [this, Bool.false_or]
      by_cases h : Lib.indexByte l c = -1
      · simp [h]
      · have h2 : (Lib.indexByte l c == -1) = false := by rw [beq_eq_false_iff_ne]; exact h
        simp only [h2, Bool.false_eq_true, if_false]
        exact decide_eq_decide.2 (by omega)
set_option maxHeartbeats 400000 in
set_option maxRecDepth 100000 in
theorem contains_any (l : List UInt8) (w : World) :
    Calls Tryz.prog 105 #[.string (S l), .string ⟨#[10]⟩] w fun e w' => e = .returned (.bool (l.contains 10)) ∧ w = w' := by
  have HIX := Lib.hid (indexlf_any (S l) w)
  rw [← indexByte_has]
  generalize hz : Lib.indexByte l 10 = z at HIX ⊢
  rw [S_list, hz] at HIX
  clear hz
  have hsi : Calls Tryz.prog 125 #[.string (S l), .string ⟨#[10]⟩] w fun e w' => e = .returned (.int .i64 z) ∧ w = w' := by
    go_enter Tryz.func125, Tryz.ntmps125
    go_wp2_with (go_at_call 112; refine HIX.out.mono ?_; rintro e w' ⟨rfl, rfl⟩)
    go_ret
    exact ⟨rfl, rfl⟩
  have HS := Lib.hid hsi
  clear hsi HIX
  go_enter Tryz.func105, Tryz.ntmps105
  go_wp2_with (go_at_call 125; refine HS.out.mono ?_; rintro e w' ⟨rfl, rfl⟩)
  go_ret
  exact ⟨rfl, rfl⟩
/-- May a text stand with an operator that has this? -/
def allowsB (h : Nat) (s : List UInt8) : Bool :=
  if h = 2 then decide (s.length ≤ 64) && Lib.validD s && !s.contains 10
  else if h = 3 then classB s
  else if h = 4 then classB s || decide (0 < depN s)
  else if h = 5 then rightB s && decide (deepN s ≤ 2)
  else if h = 6 then partsB s
  else s == []
set_option maxHeartbeats 2000000 in
set_option maxRecDepth 100000 in
theorem allows_any (h : Nat) (l : List UInt8) (w : World) (hT : CT w) (hlim : l.length ≤ 1099511627776) :
    Calls Tryz.prog 81 #[.int .i64 h, .string (S l)] w (Said (allowsB h l) w) := by
  have HT := Lib.hid hT
  clear hT
  unfold allowsB
  by_cases h2 : h = 2
  · subst h2
    rw [if_pos rfl]
    have hsz : ((S l).size : Int) = (l.length : Int) := by rw [S_size]
    have HV := Lib.hid (valid_any l w (by omega) HT.out.tabs)
    have HC : Hid (∀ w, Calls Tryz.prog 105 #[.string (S l), .string ⟨#[10]⟩] w fun e w' => e = .returned (.bool (l.contains 10)) ∧ w = w') := fun w => contains_any l w
    by_cases h64 : l.length ≤ 64
    · have h64' : (l.length : Int) ≤ 64 := by omega
      rw [decide_eq_true h64, Bool.true_and]
      generalize Lib.validD l = v at HV ⊢
      generalize l.contains 10 = c at HC ⊢
      go_enter Tryz.func81, Tryz.ntmps81
      cases v
      · go_wp2_with (first | (go_at_call 104; refine HV.out.mono ?_; rintro e w' ⟨rfl, hbv⟩) | (go_at_call 105; refine (HC.out _).mono ?_; rintro e w' ⟨rfl, rfl⟩))
        go_ret
        exact ⟨rfl, hbv⟩
      · go_wp2_with (first | (go_at_call 104; refine HV.out.mono ?_; rintro e w' ⟨rfl, hbv⟩) | (go_at_call 105; refine (HC.out _).mono ?_; rintro e w' ⟨rfl, rfl⟩))
        go_ret
        exact ⟨rfl, hbv⟩
    · have h64' : (64 : Int) < (l.length : Int) := by omega
      rw [decide_eq_false h64, Bool.false_and, Bool.false_and]
      go_enter Tryz.func81, Tryz.ntmps81
      go_wp2
      go_ret
      exact ⟨rfl, Below.refl _ _⟩
  rw [if_neg h2]
  have e2 : ((h : Int) == 2) = false := by rw [beq_eq_false_iff_ne]; omega
  by_cases h3 : h = 3
  · subst h3
    rw [if_pos rfl]
    have HC := Lib.hid (class_any l w hlim)
    generalize classB l = c at HC ⊢
    go_enter Tryz.func81, Tryz.ntmps81
    go_wp2_with (go_at_call 106; refine HC.out.mono ?_; rintro e w' ⟨rfl, hb⟩)
    go_ret
    exact ⟨rfl, hb⟩
  rw [if_neg h3]
  have e3 : ((h : Int) == 3) = false := by rw [beq_eq_false_iff_ne]; omega
  by_cases h4 : h = 4
  · subst h4
    rw [if_pos rfl]
    have HC := Lib.hid (class_any l w hlim)
    have HD : Hid (∀ w, Calls Tryz.prog 107 #[.string (S l)] w (SaidN (depN l) w)) := fun w => deep_any l w hlim
    generalize classB l = c at HC ⊢
    generalize depN l = d at HD ⊢
    go_enter Tryz.func81, Tryz.ntmps81
    cases c
    · go_wp2_with (first | (go_at_call 106; refine HC.out.mono ?_; rintro e w' ⟨rfl, hb⟩) | (go_at_call 107; refine (HD.out _).mono ?_; rintro e w'' ⟨rfl, hb2⟩))
      go_ret
      refine ⟨?_, hb.trans (hb2.mono hb.size)⟩
      rw [Bool.false_or]
      rfl
    · go_wp2_with (first | (go_at_call 106; refine HC.out.mono ?_; rintro e w' ⟨rfl, hb⟩) | (go_at_call 107; refine (HD.out _).mono ?_; rintro e w'' ⟨rfl, hb2⟩))
      go_ret
      exact ⟨rfl, hb⟩
  rw [if_neg h4]
  have e4 : ((h : Int) == 4) = false := by rw [beq_eq_false_iff_ne]; omega
  by_cases h5 : h = 5
  · subst h5
    rw [if_pos rfl]
    by_cases hr : rightB l = true ∧ deepN l ≤ 2
    · rw [hr.1, decide_eq_true hr.2]
      have HO := Lib.hid (of_yes l w hlim hr.1 hr.2)
      clear hr
      go_enter Tryz.func81, Tryz.ntmps81
      go_wp2_with (go_at_call 108; refine HO.out.mono ?_; rintro e w' ⟨rfl, hb⟩)
      go_ret
      exact ⟨rfl, hb⟩
    · have hf : (rightB l && decide (deepN l ≤ 2)) = false := by
        rw [Bool.eq_false_iff]
        intro hh
        rw [Bool.and_eq_true, decide_eq_true_eq] at hh
        exact hr hh
      rw [hf]
      have HO := Lib.hid (of_no l w hlim hr)
      clear hr hf
      go_enter Tryz.func81, Tryz.ntmps81
      go_wp2_with (go_at_call 108; refine HO.out.mono ?_; rintro e w' ⟨rfl, hb⟩)
      go_ret
      exact ⟨rfl, hb⟩
  rw [if_neg h5]
  have e5 : ((h : Int) == 5) = false := by rw [beq_eq_false_iff_ne]; omega
  by_cases h6 : h = 6
  · subst h6
    rw [if_pos rfl]
    cases hp : partsB l
    · have HO := Lib.hid (parts_no l w hlim hp)
      clear hp
      go_enter Tryz.func81, Tryz.ntmps81
      go_wp2_with (go_at_call 109; refine HO.out.mono ?_; rintro e w' ⟨rfl, hb⟩)
      go_ret
      exact ⟨rfl, hb⟩
    · have HO := Lib.hid (parts_yes l w hlim hp)
      clear hp
      go_enter Tryz.func81, Tryz.ntmps81
      go_wp2_with (go_at_call 109; refine HO.out.mono ?_; rintro e w' ⟨rfl, hb⟩)
      go_ret
      exact ⟨rfl, hb⟩
  rw [if_neg h6]
  have e6 : ((h : Int) == 6) = false := by rw [beq_eq_false_iff_ne]; omega
  have es := S_toList l
  go_enter Tryz.func81, Tryz.ntmps81
  go_wp2
  go_ret
  refine ⟨?_, Below.refl _ _⟩
  show Ending.returned (.bool l.isEmpty) = .returned (.bool (l == []))
  cases l <;> rfl
/-- What Check answers. -/
def checkE (op : List UInt8) (n : Int) (s : List UInt8) : Nat :=
  if idx op < 42 then (if hasAt (idx op) ≠ 1 ∧ n ≠ 0 then 41 else if allowsB (hasAt (idx op)) s then 0 else 41) else 40
/-- An instruction's value. -/
abbrev insV (op : List UInt8) (n : Int) (s : List UInt8) : Value := .agg #[.string (S op), .int .i64 n, .string (S s)]
theorem SaidN_below {n : Nat} {w : World} {e : Ending} {w' : World} (h : SaidN n w e w') : e = .returned (.int .i64 n) ∧ Below w.heap.size w w' := h
set_option maxHeartbeats 2000000 in
set_option maxRecDepth 100000 in
theorem check_any (op : List UInt8) (n : Int) (s : List UInt8) (w : World) (hT : CT w) (hlim : s.length ≤ 1099511627776) :
    Calls Tryz.prog 56 #[insV op n s] w fun e w' => e = .returned (.int .i64 (checkE op n s : Nat)) ∧ Below w.heap.size w w' := by
  have HT := Lib.hid hT
  clear hT
  go_enter Tryz.func56, Tryz.ntmps56
  go_wp2_with fail
  have hb0 : Below w.heap.size w (w.alloc (.cells #[.string (S op), .int .i64 n, .string (S s)] 50)) := (Below.refl _ w).alloc (Nat.le_refl _) _
  refine (cnamed_any op _ (HT.out.ops.keep hb0)).mono ?_
  rintro e w1 ⟨rfl, hb1⟩
  have hi1 : w1.heap[w.heap.size]? = some (.cells #[.string (S op), .int .i64 n, .string (S s)] 50 (0, 0)) := (Only.ofBelow (S := fun _ => False) hb1).heap (heap_alloc_new w _) id
  have hbw : Below w.heap.size w w1 := hb0.trans (hb1.mono hb0.size)
  clear hb1 hb0
  have hcN : w1.cell? ⟨w.heap.size, 1, none⟩ = some (.int .i64 n) := by simp [World.cell?, hi1]
  have hcS : w1.cell? ⟨w.heap.size, 2, none⟩ = some (.string (S s)) := by simp [World.cell?, hi1]
  have hsz : w.heap.size < w1.heap.size := lt_of_block hi1
  clear hi1
  have hbA : ∀ o : Obj, Below w.heap.size w (w1.alloc o) := fun o => hbw.alloc hbw.size o
  unfold lookV
  generalize nameAt (idx op) = nm
  by_cases hN : idx op < 42
  · rw [if_pos hN, decide_eq_true hN]
    have hE : checkE op n s = (if hasAt (idx op) ≠ 1 ∧ n ≠ 0 then 41 else if allowsB (hasAt (idx op)) s then 0 else 41) := if_pos hN
    generalize hasAt (idx op) = h at hE ⊢
    generalize idx op = q
    have HA : Hid (∀ o : Obj, Calls Tryz.prog 81 #[.int .i64 h, .string (S s)] (w1.alloc o) (Said (allowsB h s) (w1.alloc o))) := fun o => allows_any h s _ (HT.out.keep (hbA o)) hlim
    generalize allowsB h s = ok at HA hE
    have HB := Lib.hid hbA
    clear hbA hbw hN
    by_cases h1 : h = 1
    · subst h1
      rw [if_neg (by simp)] at hE
      cases ok
      · have HE := Lib.hid hE
        clear hE
        go_wp2_with (go_at_call 81; refine (HA.out _).mono ?_; rintro e w' ⟨rfl, hb⟩)
        go_ret
        exact ⟨by rw [HE.out]; rfl, (HB.out _).trans (hb.mono (HB.out _).size)⟩
      · have HE := Lib.hid hE
        clear hE
        go_wp2_with (go_at_call 81; refine (HA.out _).mono ?_; rintro e w' ⟨rfl, hb⟩)
        go_ret
        exact ⟨by rw [HE.out]; rfl, (HB.out _).trans (hb.mono (HB.out _).size)⟩
    · have e1 : ((h : Int) == 1) = false := by rw [beq_eq_false_iff_ne]; omega
      have e1' : ((h : Int) != 1) = true := by rw [bne_iff_ne]; omega
      by_cases hn : n = 0
      · subst hn
        rw [if_neg (by simp)] at hE
        cases ok
        · have HE := Lib.hid hE
          clear hE
          go_wp2_with (go_at_call 81; refine (HA.out _).mono ?_; rintro e w' ⟨rfl, hb⟩)
          go_ret
          exact ⟨by rw [HE.out]; rfl, (HB.out _).trans (hb.mono (HB.out _).size)⟩
        · have HE := Lib.hid hE
          clear hE
          go_wp2_with (go_at_call 81; refine (HA.out _).mono ?_; rintro e w' ⟨rfl, hb⟩)
          go_ret
          exact ⟨by rw [HE.out]; rfl, (HB.out _).trans (hb.mono (HB.out _).size)⟩
      · rw [if_pos ⟨h1, hn⟩] at hE
        have HE := Lib.hid hE
        clear hE
        have e2 : (n != 0) = true := by rw [bne_iff_ne]; exact hn
        go_wp2
        go_ret
        exact ⟨by rw [HE.out]; rfl, HB.out _⟩
  · have HE : Hid (checkE op n s = 40) := Lib.hid (if_neg hN)
    rw [if_neg hN, decide_eq_false hN]
    generalize hasAt (idx op) = h
    have HB := Lib.hid hbA
    clear hbA hbw hN
    go_wp2
    go_ret
    exact ⟨by rw [HE.out]; rfl, HB.out _⟩
end Go.Proofs.YtcoobdbfgiiejaaGreatDoor
namespace Go.Proofs.YtcoobdbfgiiejaaGreatDoor
open Go.RowKit
/-- The operators' names as cells. -/
def nameCells : List Value := opTab.map fun x => .string (S x.1)
theorem nameCells_at (k : Nat) (hk : k < 42) : nameCells[k]? = some (.string (S (nameAt k))) := by
  have hl : k < opTab.length := by rw [opTab_len]; exact hk
  rw [nameCells, List.getElem?_map, List.getElem?_eq_getElem hl, nameAt_get k hl]
  rfl
set_option maxHeartbeats 2000000 in
set_option maxRecDepth 100000 in
theorem refops_any (w : World) :
    Calls Tryz.prog 40 #[] w fun e w' => e = .returned (.slice (some ⟨w.heap.size, 0, none⟩) 42 42) ∧ w.alloc (.cells nameCells.toArray 9) = w' := by
  go_enter Tryz.func40, Tryz.ntmps40
  go_wp2
  go_ret
  exact ⟨rfl, congrArg (fun a => w.alloc (.cells a 9)) (by kernel_rfl)⟩
theorem names_cell (w : World) (k : Nat) (hk : k < 42) : (w.alloc (.cells nameCells.toArray 9)).cell? ⟨w.heap.size, k, none⟩ = some (.string (S (nameAt k))) := by
  have h := nameCells_at k hk
  have hn := heap_alloc_new w (.cells nameCells.toArray 9)
  unfold World.cell?
  rw [hn]
  simpa using h
set_option maxHeartbeats 2000000 in
set_option maxRecDepth 100000 in
theorem refnumber_any (s : List UInt8) (w : World) :
    Calls Tryz.prog 34 #[.string (S s)] w fun e w' => e = .returned (.int .i64 (if idx s < 42 then (idx s : Int) else -1)) ∧ Below w.heap.size w w' := by
  obtain ⟨N, hN⟩ : ∃ N, N = idx s := ⟨_, rfl⟩
  rw [← hN]
  have hlo : ∀ j, j < N → (nameAt j == s) = false := fun j hj => idx_before s j (by omega)
  have hat : N < 42 → (nameAt N == s) = true := fun h => by rw [hN]; exact idx_at s (by omega)
  have hle : N ≤ 42 := by rw [hN]; exact idx_le s
  have HLO := Lib.hid hlo
  have HAT := Lib.hid hat
  clear hlo hat hN
  go_enter Tryz.func34, Tryz.ntmps34
  go_wp2_with (go_at_call 40; refine (refops_any _).mono ?_; rintro e w' ⟨rfl, rfl⟩)
  have hcell : Hid (∀ k, k < 42 → (w.alloc (.cells nameCells.toArray 9)).cell? ⟨w.heap.size, k, none⟩ = some (.string (S (nameAt k)))) := Lib.hid (fun k hk => names_cell w k hk)
  have hbel : Below w.heap.size w (w.alloc (.cells nameCells.toArray 9)) := (Below.refl _ w).alloc (Nat.le_refl _) _
  generalize w.alloc (.cells nameCells.toArray 9) = w1 at hcell hbel ⊢
  have HB := Lib.hid hbel
  clear hbel
  go_loopw [4] (fun v4 wr => wr = w1 ∧ ∃ k : Nat, k ≤ N ∧ v4 = .int .i64 k) (fun v4 _ => 42 - (intOf v4).toNat)
  case atStart => exact ⟨rfl, 0, Nat.zero_le _, rfl⟩
  case round =>
    obtain ⟨rfl, k, hk, rfl⟩ := hrel
    by_cases hlt : k < 42
    · have hlt' : (k : Int) < 42 := by omega
      have hk0 : (0 : Int) ≤ k := by omega
      have hc := hcell.out k hlt
      have es := S_toList s
      have en := S_toList (nameAt k)
      by_cases hkn : k < N
      · have hne := HLO.out k hkn
        go_wp2
        go_roundw
        case rel => exact ⟨trivial, k + 1, by omega, by go_num⟩
        case measure => simp [intOf]; omega
      · obtain rfl : k = N := by omega
        have hne := HAT.out hlt
        go_wp2
        go_ret
        exact ⟨rfl, HB.out⟩
    · obtain rfl : k = 42 := by omega
      obtain rfl : N = 42 := by omega
      go_wp2
      go_ret
      exact ⟨rfl, HB.out⟩
/-- What an operator takes: 0 nothing, 1 a number, 2 a text; -1: there is none. -/
def refT (op : List UInt8) : Int := if idx op < 42 then (if hasAt (idx op) = 1 then 1 else if 2 ≤ hasAt (idx op) then 2 else 0) else -1
def thirteen : List (List UInt8) := [[105, 110, 116], [108, 111, 97, 100], [115, 116, 111, 114, 101], [106, 117, 109, 112], [98, 114, 97, 110, 99, 104], [119, 111, 114, 100], [110, 101, 119], [103, 101, 116], [112, 117, 116], [99, 97, 108, 108], [97, 114, 114, 97, 121], [105, 115], [99, 97, 115, 116]]
theorem rest_zero : ∀ k : Fin 42, thirteen.contains (nameAt k.val) = false → hasAt k.val = 0 := by decide
theorem refT_rest (op : List UInt8) (h : thirteen.contains op = false) : refT op = if idx op < 42 then 0 else -1 := by
  unfold refT
  by_cases hN : idx op < 42
  · have e := beq_iff_eq.1 (idx_at op hN)
    have hz := rest_zero ⟨idx op, hN⟩ (by show thirteen.contains (nameAt (idx op)) = false; rw [e]; exact h)
    have hz' : hasAt (idx op) = 0 := hz
    rw [if_pos hN, if_pos hN, hz']
    rfl
  · rw [if_neg hN, if_neg hN]
set_option maxHeartbeats 2000000 in
set_option maxRecDepth 100000 in
theorem reftakes_any (op : List UInt8) (w : World) :
    Calls Tryz.prog 35 #[.string (S op)] w fun e w' => e = .returned (.int .i64 (refT op)) ∧ Below w.heap.size w w' := by
  have es := S_toList op
  by_cases h0 : op = [105, 110, 116]
  · subst h0
    rw [show refT [105, 110, 116] = 1 from by decide]
    go_enter Tryz.func35, Tryz.ntmps35
    go_wp2
    go_ret
    exact ⟨rfl, Below.refl _ _⟩
  have e0 : (op == [105, 110, 116]) = false := by rw [beq_eq_false_iff_ne]; exact h0
  by_cases h1 : op = [108, 111, 97, 100]
  · subst h1
    rw [show refT [108, 111, 97, 100] = 1 from by decide]
    go_enter Tryz.func35, Tryz.ntmps35
    go_wp2
    go_ret
    exact ⟨rfl, Below.refl _ _⟩
  have e1 : (op == [108, 111, 97, 100]) = false := by rw [beq_eq_false_iff_ne]; exact h1
  by_cases h2 : op = [115, 116, 111, 114, 101]
  · subst h2
    rw [show refT [115, 116, 111, 114, 101] = 1 from by decide]
    go_enter Tryz.func35, Tryz.ntmps35
    go_wp2
    go_ret
    exact ⟨rfl, Below.refl _ _⟩
  have e2 : (op == [115, 116, 111, 114, 101]) = false := by rw [beq_eq_false_iff_ne]; exact h2
  by_cases h3 : op = [106, 117, 109, 112]
  · subst h3
    rw [show refT [106, 117, 109, 112] = 1 from by decide]
    go_enter Tryz.func35, Tryz.ntmps35
    go_wp2
    go_ret
    exact ⟨rfl, Below.refl _ _⟩
  have e3 : (op == [106, 117, 109, 112]) = false := by rw [beq_eq_false_iff_ne]; exact h3
  by_cases h4 : op = [98, 114, 97, 110, 99, 104]
  · subst h4
    rw [show refT [98, 114, 97, 110, 99, 104] = 1 from by decide]
    go_enter Tryz.func35, Tryz.ntmps35
    go_wp2
    go_ret
    exact ⟨rfl, Below.refl _ _⟩
  have e4 : (op == [98, 114, 97, 110, 99, 104]) = false := by rw [beq_eq_false_iff_ne]; exact h4
  by_cases h5 : op = [119, 111, 114, 100]
  · subst h5
    rw [show refT [119, 111, 114, 100] = 2 from by decide]
    go_enter Tryz.func35, Tryz.ntmps35
    go_wp2
    go_ret
    exact ⟨rfl, Below.refl _ _⟩
  have e5 : (op == [119, 111, 114, 100]) = false := by rw [beq_eq_false_iff_ne]; exact h5
  by_cases h6 : op = [110, 101, 119]
  · subst h6
    rw [show refT [110, 101, 119] = 2 from by decide]
    go_enter Tryz.func35, Tryz.ntmps35
    go_wp2
    go_ret
    exact ⟨rfl, Below.refl _ _⟩
  have e6 : (op == [110, 101, 119]) = false := by rw [beq_eq_false_iff_ne]; exact h6
  by_cases h7 : op = [103, 101, 116]
  · subst h7
    rw [show refT [103, 101, 116] = 2 from by decide]
    go_enter Tryz.func35, Tryz.ntmps35
    go_wp2
    go_ret
    exact ⟨rfl, Below.refl _ _⟩
  have e7 : (op == [103, 101, 116]) = false := by rw [beq_eq_false_iff_ne]; exact h7
  by_cases h8 : op = [112, 117, 116]
  · subst h8
    rw [show refT [112, 117, 116] = 2 from by decide]
    go_enter Tryz.func35, Tryz.ntmps35
    go_wp2
    go_ret
    exact ⟨rfl, Below.refl _ _⟩
  have e8 : (op == [112, 117, 116]) = false := by rw [beq_eq_false_iff_ne]; exact h8
  by_cases h9 : op = [99, 97, 108, 108]
  · subst h9
    rw [show refT [99, 97, 108, 108] = 2 from by decide]
    go_enter Tryz.func35, Tryz.ntmps35
    go_wp2
    go_ret
    exact ⟨rfl, Below.refl _ _⟩
  have e9 : (op == [99, 97, 108, 108]) = false := by rw [beq_eq_false_iff_ne]; exact h9
  by_cases h10 : op = [97, 114, 114, 97, 121]
  · subst h10
    rw [show refT [97, 114, 114, 97, 121] = 2 from by decide]
    go_enter Tryz.func35, Tryz.ntmps35
    go_wp2
    go_ret
    exact ⟨rfl, Below.refl _ _⟩
  have e10 : (op == [97, 114, 114, 97, 121]) = false := by rw [beq_eq_false_iff_ne]; exact h10
  by_cases h11 : op = [105, 115]
  · subst h11
    rw [show refT [105, 115] = 2 from by decide]
    go_enter Tryz.func35, Tryz.ntmps35
    go_wp2
    go_ret
    exact ⟨rfl, Below.refl _ _⟩
  have e11 : (op == [105, 115]) = false := by rw [beq_eq_false_iff_ne]; exact h11
  by_cases h12 : op = [99, 97, 115, 116]
  · subst h12
    rw [show refT [99, 97, 115, 116] = 2 from by decide]
    go_enter Tryz.func35, Tryz.ntmps35
    go_wp2
    go_ret
    exact ⟨rfl, Below.refl _ _⟩
  have e12 : (op == [99, 97, 115, 116]) = false := by rw [beq_eq_false_iff_ne]; exact h12
  have hr : thirteen.contains op = false := by
    simp only [thirteen, List.contains_cons, List.contains_nil, e0, e1, e2, e3, e4, e5, e6, e7, e8, e9, e10, e11, e12, Bool.or_false]
  rw [refT_rest op hr]
  have HN := Lib.hid (refnumber_any op w)
  by_cases hN : idx op < 42
  · rw [if_pos hN] at HN ⊢
    generalize idx op = q at HN
    have hq : ¬ ((q : Int) < 0) := by omega
    clear hr hN h0 h1 h2 h3 h4 h5 h6 h7 h8 h9 h10 h11 h12
    go_enter Tryz.func35, Tryz.ntmps35
    go_wp2_with (go_at_call 34; refine HN.out.mono ?_; rintro e w' ⟨rfl, hb⟩)
    go_ret
    exact ⟨rfl, hb⟩
  · rw [if_neg hN] at HN ⊢
    clear hr hN h0 h1 h2 h3 h4 h5 h6 h7 h8 h9 h10 h11 h12
    go_enter Tryz.func35, Tryz.ntmps35
    go_wp2_with (go_at_call 34; refine HN.out.mono ?_; rintro e w' ⟨rfl, hb⟩)
    go_ret
    exact ⟨rfl, hb⟩
end Go.Proofs.YtcoobdbfgiiejaaGreatDoor
namespace Go.Proofs.YtcoobdbfgiiejaaGreatDoor
open Go.RowKit
theorem info_str : (Tryz.prog.info? 9).map (fun i => (i.zero, i.size, i.bytes)) = some (some (.string ⟨#[]⟩), 1, 16) := by kernel_rfl
theorem names_more (k : Nat) (hk : k < 42) : nameCells.take (k + 1) = nameCells.take k ++ [.string (S (nameAt k))] := by
  have h := nameCells_at k hk
  have hl : k < nameCells.length := by rw [nameCells, List.length_map, opTab_len]; exact hk
  rw [List.getElem?_eq_getElem hl] at h
  rw [List.take_succ_eq_append_getElem hl, Option.some.inj h]
theorem orow_shape {B : Nat} {w : World} {e : TypeId} {size : Nat} {v : Value} {n : Nat} {xs : List Value} (h : w.ownsRow B e size v n xs) : ∃ ao m c, v = .slice ao m c := by
  rcases h.2 with ⟨rfl, rfl⟩ | ⟨g, cap, cur, rfl, _⟩
  · exact ⟨_, _, _, rfl⟩
  · exact ⟨_, _, _, rfl⟩
set_option maxHeartbeats 2000000 in
set_option maxRecDepth 100000 in
theorem ops_any (w : World) (hO : OpTab w) :
    Calls Tryz.prog 24 #[] w fun e w' => ∃ v, e = .returned v ∧ w'.ownsRow 0 9 1 v 42 nameCells ∧ (∀ g, v.ownBlock = some g → w.heap.size ≤ g) ∧ Below w.heap.size w w' := by
  have HO := Lib.hid hO
  have HI := Lib.hid info_ops
  obtain ⟨i0, hi, hz0, hz1, hz2⟩ := info_parts info_str
  obtain ⟨w1, hmk, hrow, hgr⟩ := run_makeSlice_owned (P := Tryz.prog) w 0 51 9 i0 (.string ⟨#[]⟩) 1 Tryz.underlying51 hi hz0 hz1 .i64 .i64 42 (by decide) (by rw [hz2]; decide) (by decide) (Nat.zero_le _)
  have hmk' : (Instr.makeSlice 51 (.int .i64 0) (.int .i64 42)).run Tryz.prog w = .ok (.slice (some ⟨w.heap.size, 0, none⟩) 0 42) w1 := hmk
  have hb1 : Below w.heap.size w w1 := (((Only.refl (fun _ => False) w).grown hgr (fun k hk => by cases hk)).below (Nat.le_refl _) (fun _ h => h.elim))
  have HR := Lib.hid hrow
  have HB1 := Lib.hid hb1
  clear hO hmk hrow hgr hb1
  go_enter Tryz.func24, Tryz.ntmps24
  go_upto_region 2 with fail
  refine wp_region_lit ?_
  refine wpList_load_mid (by rfl) 96 _ (by rfl) 0 0 (by rfl) opCells _ (HO.out.keep HB1.out) Tryz.underlying96 (by rfl) HI.out ?_
  go_wp2
  clear hmk'
  go_loopw [1, 6] (fun v1 v6 wr => ∃ k : Nat, k ≤ 42 ∧ v6 = .int .i64 k ∧ wr.ownsRow 0 9 1 v1 k (nameCells.take k) ∧ (∀ g, v1.ownBlock = some g → w.heap.size ≤ g) ∧ Below w.heap.size w wr) (fun _ v6 _ => 42 - (intOf v6).toNat)
  case atStart => exact ⟨0, Nat.zero_le _, rfl, by simpa using HR.out, fun g hg => by simp [Value.ownBlock] at hg; omega, HB1.out⟩
  case round =>
    obtain ⟨k, hk, rfl, hrow, hown, hbel⟩ := hrel
    by_cases hlt : k < 42
    · have hlt' : (k : Int) < 42 := by omega
      have hk0 : (0 : Int) ≤ k := by omega
      have hix := op_index k hlt
      have HRW := Lib.hid ((((Only.refl (fun _ => False) wr).alloc (.cells #[.string (S (nameAt k)), .int .i64 (hasAt k : Nat)] 59)).alloc (.cells #[.string (S (nameAt k))] 9)).row hrow (fun _ _ => id))
      have HOW := Lib.hid hown
      have HBL := Lib.hid hbel
      obtain ⟨ao, m1, c1, rfl⟩ := orow_shape hrow
      clear hrow hown hbel
      go_wp2_with (at_builtin; refine wpList_append_fine _ rfl _ _ 51 rfl 9 i0 (.string ⟨#[]⟩) 1 16 Tryz.underlying51 hi hz0 hz1 hz2 rfl (by decide) _ _ _ rfl HRW.out ⟨wr.heap.size + 1, 0, none⟩ 1 1 [.string (S (nameAt k))] rfl rfl (by intro j u hj; match j, hj with | 0, hj => (simp at hj; subst hj; simp [Addr.add]) | j + 1, hj => simp at hj) (by intro u hu; simp at hu; subst hu; rfl) ?c3 ?c4 ?_)
      case c3 => unfold maxLen; omega
      case c4 => omega
      intro v' w2 hown' hgrow
      have hb2 : Below w.heap.size w w2 := ((HBL.out.alloc HBL.out.size _).alloc (by simp; have := HBL.out.size; omega) _).trans (hgrow.only.below (by simp; have := HBL.out.size; omega) (fun i hi => HOW.out i hi))
      have hc2 : ∀ g, v'.ownBlock = some g → w.heap.size ≤ g := fun g hg => by
        rcases hgrow.came with e | e
        · exact HOW.out g (e ▸ hg)
        · have h1 := e g hg
          have h2 := HBL.out.size
          simp at h1
          omega
      rw [← names_more k hlt] at hown'
      have HRN := Lib.hid hown'
      clear hown' hgrow
      go_wp2
      go_roundw
      case rel => exact ⟨k + 1, by omega, by go_num, HRN.out, hc2, hb2⟩
      case measure => simp [intOf]; omega
    · obtain rfl : k = 42 := by omega
      have HRW := Lib.hid hrow
      clear hrow
      go_wp2
      go_ret
      have h := HRW.out
      rw [List.take_of_length_le (by rw [nameCells, List.length_map, opTab_len]; exact Nat.le_refl _)] at h
      exact ⟨_, rfl, h, hown, hbel⟩
end Go.Proofs.YtcoobdbfgiiejaaGreatDoor
