/-
  Plain mathematics of layer 4: the forty-two operators, where a name stands among them, what each has.
  Conditions: none; the last laws speak of how the program's table is read at an index.
  Strings and bytes: a list of bytes as a string, conversions there and back.
  Conditions: none of its own.
  The contracts of package code's find and named (with its closure), and of isText.
  Conditions: the table of operators holds what it holds at the start.
  Plain mathematics of kinds: which lists of bytes are names, classes, members and kinds, how deep, and of what elements.
  Conditions: none; no program is named here.
-/
import Derived.Test.YtpincofjopmaaaaGreatDoorM01
import Derived.Test.YtpincofjopmaaaaGreatDoorProg
import Derived.KernelRfl
import Derived.Laws.BytesArg
import Derived.Lib.Bytes
import Derived.Lib.ConvBytes
import Derived.Deep.MidRow
import Derived.Deep.QuietTactic
import Derived.BigQuiet
import Derived.Deep.Cut
import Derived.IntWalk
namespace Go.Proofs.YtpincofjopmaaaaGreatDoor
open Go.RowKit
/-- The operators in order: the name, and what it has (0 nothing, 1 a number, 2 a word, 3 a class, 4 a reference, 5 an element's kind, 6 a member). -/
def opTab : List (List UInt8 × Nat) := [
  ([105, 110, 116], 1),
  ([116, 114, 117, 101], 0),
  ([102, 97, 108, 115, 101], 0),
  ([119, 111, 114, 100], 2),
  ([110, 117, 108, 108], 0),
  ([108, 111, 97, 100], 1),
  ([115, 116, 111, 114, 101], 1),
  ([112, 111, 112], 0),
  ([100, 117, 112], 0),
  ([115, 119, 97, 112], 0),
  ([97, 100, 100], 0),
  ([115, 117, 98], 0),
  ([109, 117, 108], 0),
  ([100, 105, 118], 0),
  ([114, 101, 109], 0),
  ([110, 101, 103], 0),
  ([108, 101, 115, 115], 0),
  ([115, 97, 109, 101], 0),
  ([110, 111, 116], 0),
  ([98, 111, 116, 104], 0),
  ([106, 111, 105, 110], 0),
  ([115, 105, 122, 101], 0),
  ([106, 117, 109, 112], 1),
  ([98, 114, 97, 110, 99, 104], 1),
  ([110, 101, 119], 3),
  ([103, 101, 116], 6),
  ([112, 117, 116], 6),
  ([99, 97, 108, 108], 6),
  ([97, 114, 114, 97, 121], 5),
  ([97, 116], 0),
  ([115, 101, 116], 0),
  ([105, 115], 4),
  ([99, 97, 115, 116], 4),
  ([114, 101, 116, 117, 114, 110], 0),
  ([116, 104, 114, 111, 119], 0),
  ([111, 117, 116], 0),
  ([101, 113, 117, 97, 108], 0),
  ([97, 110, 100], 0),
  ([111, 114], 0),
  ([120, 111, 114], 0),
  ([115, 104, 108], 0),
  ([115, 104, 114], 0)]
def nameAt (k : Nat) : List UInt8 := (opTab.getD k ([], 0)).1
def hasAt (k : Nat) : Nat := (opTab.getD k ([], 0)).2
/-- Where a name stands; 42: nowhere. -/
def idx (s : List UInt8) : Nat := opTab.findIdx fun x => x.1 == s
def opCells : List Value := opTab.flatMap fun x => [.string (S x.1), .int .i64 (x.2 : Nat)]
theorem opTab_len : opTab.length = 42 := by decide
theorem idx_le (s : List UInt8) : idx s ≤ 42 := by
  have h := List.findIdx_le_length (xs := opTab) (p := fun x => x.1 == s)
  rw [opTab_len] at h
  exact h
theorem nameAt_get (k : Nat) (h : k < opTab.length) : nameAt k = opTab[k].1 := by
  unfold nameAt
  rw [List.getD_eq_getElem?_getD, List.getElem?_eq_getElem h]
  rfl
theorem idx_before (s : List UInt8) (j : Nat) (h : j < idx s) : (nameAt j == s) = false := by
  have hl : j < opTab.length := Nat.lt_of_lt_of_le h (by rw [opTab_len]; exact idx_le s)
  have h1 := List.not_of_lt_findIdx (p := fun x : List UInt8 × Nat => x.1 == s) (xs := opTab) h
  rw [nameAt_get j hl]
  simpa using h1
theorem idx_at (s : List UInt8) (h : idx s < 42) : (nameAt (idx s) == s) = true := by
  have hl : idx s < opTab.length := by rw [opTab_len]; exact h
  have h1 := List.findIdx_getElem (p := fun x : List UInt8 × Nat => x.1 == s) (xs := opTab) (w := hl)
  rw [nameAt_get _ hl]
  exact h1
theorem hasAt_le (k : Nat) : hasAt k ≤ 6 := by
  by_cases h : k < 42
  · exact (show ∀ k : Fin 42, hasAt k.val ≤ 6 by decide) ⟨k, h⟩
  · unfold hasAt
    rw [List.getD_eq_getElem?_getD, List.getElem?_eq_none (by rw [opTab_len]; omega)]
    decide
theorem at_end : nameAt 42 = [] ∧ hasAt 42 = 0 := by decide
def opVal (k : Nat) : Value := .agg #[.string (S (nameAt k)), .int .i64 (hasAt k : Nat)]
theorem op_index0 (w : World) : (Instr.index 287 (.agg opCells.toArray) (.int .i64 0)).run Tryz.prog w = .ok (opVal 0) w := by kernel_rfl
theorem op_index1 (w : World) : (Instr.index 287 (.agg opCells.toArray) (.int .i64 1)).run Tryz.prog w = .ok (opVal 1) w := by kernel_rfl
theorem op_index2 (w : World) : (Instr.index 287 (.agg opCells.toArray) (.int .i64 2)).run Tryz.prog w = .ok (opVal 2) w := by kernel_rfl
theorem op_index3 (w : World) : (Instr.index 287 (.agg opCells.toArray) (.int .i64 3)).run Tryz.prog w = .ok (opVal 3) w := by kernel_rfl
theorem op_index4 (w : World) : (Instr.index 287 (.agg opCells.toArray) (.int .i64 4)).run Tryz.prog w = .ok (opVal 4) w := by kernel_rfl
theorem op_index5 (w : World) : (Instr.index 287 (.agg opCells.toArray) (.int .i64 5)).run Tryz.prog w = .ok (opVal 5) w := by kernel_rfl
theorem op_index6 (w : World) : (Instr.index 287 (.agg opCells.toArray) (.int .i64 6)).run Tryz.prog w = .ok (opVal 6) w := by kernel_rfl
theorem op_index7 (w : World) : (Instr.index 287 (.agg opCells.toArray) (.int .i64 7)).run Tryz.prog w = .ok (opVal 7) w := by kernel_rfl
theorem op_index8 (w : World) : (Instr.index 287 (.agg opCells.toArray) (.int .i64 8)).run Tryz.prog w = .ok (opVal 8) w := by kernel_rfl
theorem op_index9 (w : World) : (Instr.index 287 (.agg opCells.toArray) (.int .i64 9)).run Tryz.prog w = .ok (opVal 9) w := by kernel_rfl
theorem op_index10 (w : World) : (Instr.index 287 (.agg opCells.toArray) (.int .i64 10)).run Tryz.prog w = .ok (opVal 10) w := by kernel_rfl
theorem op_index11 (w : World) : (Instr.index 287 (.agg opCells.toArray) (.int .i64 11)).run Tryz.prog w = .ok (opVal 11) w := by kernel_rfl
theorem op_index12 (w : World) : (Instr.index 287 (.agg opCells.toArray) (.int .i64 12)).run Tryz.prog w = .ok (opVal 12) w := by kernel_rfl
theorem op_index13 (w : World) : (Instr.index 287 (.agg opCells.toArray) (.int .i64 13)).run Tryz.prog w = .ok (opVal 13) w := by kernel_rfl
theorem op_index14 (w : World) : (Instr.index 287 (.agg opCells.toArray) (.int .i64 14)).run Tryz.prog w = .ok (opVal 14) w := by kernel_rfl
theorem op_index15 (w : World) : (Instr.index 287 (.agg opCells.toArray) (.int .i64 15)).run Tryz.prog w = .ok (opVal 15) w := by kernel_rfl
theorem op_index16 (w : World) : (Instr.index 287 (.agg opCells.toArray) (.int .i64 16)).run Tryz.prog w = .ok (opVal 16) w := by kernel_rfl
theorem op_index17 (w : World) : (Instr.index 287 (.agg opCells.toArray) (.int .i64 17)).run Tryz.prog w = .ok (opVal 17) w := by kernel_rfl
theorem op_index18 (w : World) : (Instr.index 287 (.agg opCells.toArray) (.int .i64 18)).run Tryz.prog w = .ok (opVal 18) w := by kernel_rfl
theorem op_index19 (w : World) : (Instr.index 287 (.agg opCells.toArray) (.int .i64 19)).run Tryz.prog w = .ok (opVal 19) w := by kernel_rfl
theorem op_index20 (w : World) : (Instr.index 287 (.agg opCells.toArray) (.int .i64 20)).run Tryz.prog w = .ok (opVal 20) w := by kernel_rfl
theorem op_index21 (w : World) : (Instr.index 287 (.agg opCells.toArray) (.int .i64 21)).run Tryz.prog w = .ok (opVal 21) w := by kernel_rfl
theorem op_index22 (w : World) : (Instr.index 287 (.agg opCells.toArray) (.int .i64 22)).run Tryz.prog w = .ok (opVal 22) w := by kernel_rfl
theorem op_index23 (w : World) : (Instr.index 287 (.agg opCells.toArray) (.int .i64 23)).run Tryz.prog w = .ok (opVal 23) w := by kernel_rfl
theorem op_index24 (w : World) : (Instr.index 287 (.agg opCells.toArray) (.int .i64 24)).run Tryz.prog w = .ok (opVal 24) w := by kernel_rfl
theorem op_index25 (w : World) : (Instr.index 287 (.agg opCells.toArray) (.int .i64 25)).run Tryz.prog w = .ok (opVal 25) w := by kernel_rfl
theorem op_index26 (w : World) : (Instr.index 287 (.agg opCells.toArray) (.int .i64 26)).run Tryz.prog w = .ok (opVal 26) w := by kernel_rfl
theorem op_index27 (w : World) : (Instr.index 287 (.agg opCells.toArray) (.int .i64 27)).run Tryz.prog w = .ok (opVal 27) w := by kernel_rfl
theorem op_index28 (w : World) : (Instr.index 287 (.agg opCells.toArray) (.int .i64 28)).run Tryz.prog w = .ok (opVal 28) w := by kernel_rfl
theorem op_index29 (w : World) : (Instr.index 287 (.agg opCells.toArray) (.int .i64 29)).run Tryz.prog w = .ok (opVal 29) w := by kernel_rfl
theorem op_index30 (w : World) : (Instr.index 287 (.agg opCells.toArray) (.int .i64 30)).run Tryz.prog w = .ok (opVal 30) w := by kernel_rfl
theorem op_index31 (w : World) : (Instr.index 287 (.agg opCells.toArray) (.int .i64 31)).run Tryz.prog w = .ok (opVal 31) w := by kernel_rfl
theorem op_index32 (w : World) : (Instr.index 287 (.agg opCells.toArray) (.int .i64 32)).run Tryz.prog w = .ok (opVal 32) w := by kernel_rfl
theorem op_index33 (w : World) : (Instr.index 287 (.agg opCells.toArray) (.int .i64 33)).run Tryz.prog w = .ok (opVal 33) w := by kernel_rfl
theorem op_index34 (w : World) : (Instr.index 287 (.agg opCells.toArray) (.int .i64 34)).run Tryz.prog w = .ok (opVal 34) w := by kernel_rfl
theorem op_index35 (w : World) : (Instr.index 287 (.agg opCells.toArray) (.int .i64 35)).run Tryz.prog w = .ok (opVal 35) w := by kernel_rfl
theorem op_index36 (w : World) : (Instr.index 287 (.agg opCells.toArray) (.int .i64 36)).run Tryz.prog w = .ok (opVal 36) w := by kernel_rfl
theorem op_index37 (w : World) : (Instr.index 287 (.agg opCells.toArray) (.int .i64 37)).run Tryz.prog w = .ok (opVal 37) w := by kernel_rfl
theorem op_index38 (w : World) : (Instr.index 287 (.agg opCells.toArray) (.int .i64 38)).run Tryz.prog w = .ok (opVal 38) w := by kernel_rfl
theorem op_index39 (w : World) : (Instr.index 287 (.agg opCells.toArray) (.int .i64 39)).run Tryz.prog w = .ok (opVal 39) w := by kernel_rfl
theorem op_index40 (w : World) : (Instr.index 287 (.agg opCells.toArray) (.int .i64 40)).run Tryz.prog w = .ok (opVal 40) w := by kernel_rfl
theorem op_index41 (w : World) : (Instr.index 287 (.agg opCells.toArray) (.int .i64 41)).run Tryz.prog w = .ok (opVal 41) w := by kernel_rfl
theorem op_index (k : Nat) (hk : k < 42) (w : World) : (Instr.index 287 (.agg opCells.toArray) (.int .i64 (k : Nat))).run Tryz.prog w = .ok (.agg #[.string (S (nameAt k)), .int .i64 (hasAt k : Nat)]) w :=
  match k, hk with
  | 0, _ => op_index0 w
  | 1, _ => op_index1 w
  | 2, _ => op_index2 w
  | 3, _ => op_index3 w
  | 4, _ => op_index4 w
  | 5, _ => op_index5 w
  | 6, _ => op_index6 w
  | 7, _ => op_index7 w
  | 8, _ => op_index8 w
  | 9, _ => op_index9 w
  | 10, _ => op_index10 w
  | 11, _ => op_index11 w
  | 12, _ => op_index12 w
  | 13, _ => op_index13 w
  | 14, _ => op_index14 w
  | 15, _ => op_index15 w
  | 16, _ => op_index16 w
  | 17, _ => op_index17 w
  | 18, _ => op_index18 w
  | 19, _ => op_index19 w
  | 20, _ => op_index20 w
  | 21, _ => op_index21 w
  | 22, _ => op_index22 w
  | 23, _ => op_index23 w
  | 24, _ => op_index24 w
  | 25, _ => op_index25 w
  | 26, _ => op_index26 w
  | 27, _ => op_index27 w
  | 28, _ => op_index28 w
  | 29, _ => op_index29 w
  | 30, _ => op_index30 w
  | 31, _ => op_index31 w
  | 32, _ => op_index32 w
  | 33, _ => op_index33 w
  | 34, _ => op_index34 w
  | 35, _ => op_index35 w
  | 36, _ => op_index36 w
  | 37, _ => op_index37 w
  | 38, _ => op_index38 w
  | 39, _ => op_index39 w
  | 40, _ => op_index40 w
  | 41, _ => op_index41 w
  | n + 42, h => absurd h (by omega)
end Go.Proofs.YtpincofjopmaaaaGreatDoor
namespace Go.Proofs.YtpincofjopmaaaaGreatDoor
open Go.RowKit
theorem info_u8 : (Tryz.prog.info? 5).map (fun i => (i.zero, i.size, i.bytes)) = some (some (.int .u8 0), 1, 1) := by kernel_rfl
theorem conv_row (w : World) (b n cap : Nat) (l : List UInt8) (hl : l.length = n) (hc : ∀ j, j < n → w.cell? ⟨b, j, none⟩ = (Lib.byteCells l)[j]?) :
    Sem.run Tryz.prog (convert 71 9 (.slice (some ⟨b, 0, none⟩) n cap)) w = .ok (.string (S l)) w := by
  have h := run_convert_bytes_arg (P := Tryz.prog) w 71 5 Tryz.underlying71 Tryz.underlying5 b 0 n cap (l.map fun c => (c.toNat : Int)) (by simpa using hl) (fun i hi => by
    rw [Nat.zero_add, hc i hi, byteCells_at]
    have : i < l.length := by omega
    simp [List.getD, List.getElem?_eq_getElem this]) 9 Tryz.underlying9
  rw [h]
  refine congrArg (fun s => Result.ok (Value.string s) w) ?_
  simp only [strOfNums, S, List.map_map]
  clear h
  refine congrArg (fun m : List UInt8 => ByteArray.mk m.toArray) ?_
  conv => rhs; rw [← List.map_id l]
  apply List.map_congr_left
  intro c _
  simp
theorem conv_one (w : World) (c : UInt8) (z : Int) (hz : z = (c.toNat : Int)) :
    Sem.run Tryz.prog (convert 71 9 (.slice (some ⟨w.heap.size, 0, none⟩) 1 1)) (w.alloc (.cells #[.int .u8 z] 5)) = .ok (.string (S [c])) (w.alloc (.cells #[.int .u8 z] 5)) := by
  refine conv_row _ _ 1 1 [c] rfl (fun j hj => ?_)
  obtain rfl : j = 0 := by omega
  subst hz
  simp [Lib.byteCells]
theorem conv_owned {w : World} {v : Value} {l : List UInt8} (h : RowIs w v l) : Sem.run Tryz.prog (convert 71 9 v) w = .ok (.string (S l)) w := by
  rcases h.2 with ⟨rfl, h0⟩ | ⟨g, cap, cur, rfl, hb, hgg, hn, _, hcs, htake⟩
  · have : l = [] := List.eq_nil_of_length_eq_zero h0
    subst this
    exact run_convert_bytes_nil (P := Tryz.prog) w 71 5 Tryz.underlying71 Tryz.underlying5 0 0 9 Tryz.underlying9
  · exact conv_row w g l.length cap l rfl (fun j hj => h.cellAt j (by omega))
/-- '[]byte(s)'. -/
theorem conv_back (s : List UInt8) (w : World) :
    Sem.run Tryz.prog (convert 9 71 (.string (S s))) w = .ok (.slice (some ⟨w.heap.size, 0, none⟩) s.length (grownCap w s.length 0 5)) (Lib.bytesWorld w 5 (S s)) := by
  have h := Lib.run_convert_string_bytes (P := Tryz.prog) w 9 71 5 (S s) Tryz.underlying9 Tryz.underlying71 Tryz.underlying5
  rw [S_size] at h
  exact h
theorem src_back (s : List UInt8) (w : World) (c : Nat) : SrcIs (Lib.bytesWorld w 5 (S s)) (.slice (some ⟨w.heap.size, 0, none⟩) s.length c) s := by
  refine .inr ⟨_, c, rfl, fun j u hj => ?_⟩
  have hjl : j < s.length := by
    rcases Nat.lt_or_ge j s.length with h | h
    · exact h
    · simp [byteCells_at, List.getElem?_eq_none h] at hj
  have ha : (⟨w.heap.size, 0, none⟩ : Addr).add j = ⟨w.heap.size, j, none⟩ := by unfold Addr.add; split <;> simp_all
  rw [ha, Lib.bytesWorld_cell w _ (S s) j (by rw [S_size]; exact hjl), S_list, ← hj, byteCells_at, List.getElem?_eq_getElem hjl]
  simp [List.getD, List.getElem?_eq_getElem hjl]
theorem below_back (s : List UInt8) (w : World) : Below w.heap.size w (Lib.bytesWorld w 5 (S s)) :=
  ⟨rfl, rfl, rfl, by rw [Lib.bytesWorld_size]; omega, fun k hk => Lib.bytesWorld_at_old w _ (S s) k hk⟩
theorem add_plain' {a : Addr} {w : World} {v : Value} (h : w.cell? a = some v) : ∃ b off, a = ⟨b, off, none⟩ := by
  obtain ⟨b, off, sp⟩ := a
  cases sp with
  | none => exact ⟨b, off, rfl⟩
  | some q =>
    exfalso
    unfold World.cell? at h
    split at h
    · simp at h
    · cases h
theorem setCells_below {B g : Nat} (hg : B ≤ g) : ∀ (vs : List Value) (o : Nat) (a w : World), Below B a w → Below B a (w.setCells g o vs)
  | [], _, _, _, h => h
  | v :: vs, o, a, w, h => setCells_below hg vs (o + 1) a (w.setCell ⟨g, o, none⟩ v) (h.setCell hg _)
theorem heap_alloc_new' (w : World) (o : Obj) (b : Nat) (h : b = w.heap.size) : (w.alloc o).heap[b]? = some o := by rw [h]; exact heap_alloc_new w o
/-- A slice of bytes that has some lies in a block. -/
theorem SrcIs.plain {w : World} {v : Value} {l : List UInt8} (h : SrcIs w v l) (hl : 0 < l.length) : ∃ b off cap, v = .slice (some ⟨b, off, none⟩) l.length cap ∧ ∀ j, j < l.length → w.cell? ⟨b, off + j, none⟩ = some (.int .u8 (l.getD j 0).toNat) := by
  rcases h with ⟨_, rfl⟩ | ⟨a, cap, rfl, hc⟩
  · simp at hl
  · have key : ∀ j, j < l.length → w.cell? (a.add j) = some (.int .u8 (l.getD j 0).toNat) := fun j hj => by
      refine hc j _ ?_
      rw [byteCells_at, List.getElem?_eq_getElem hj]
      simp [List.getD, List.getElem?_eq_getElem hj]
    obtain ⟨b, off, sp⟩ := a
    cases sp with
    | some q =>
      obtain ⟨b', off', e⟩ := add_plain' (key 0 hl)
      unfold Addr.add at e
      split at e <;> simp_all
    | none =>
      refine ⟨b, off, cap, rfl, fun j hj => ?_⟩
      have := key j hj
      rw [show (⟨b, off, none⟩ : Addr).add j = ⟨b, off + j, none⟩ by unfold Addr.add; split <;> simp_all] at this
      exact this
theorem SrcIs.below {w w' : World} {v : Value} {l : List UInt8} (h : SrcIs w v l) (hb : Below w.heap.size w w') : SrcIs w' v l :=
  h.imp id (fun ⟨a, cap, hv, hc⟩ => ⟨a, cap, hv, fun j u hj => (Only.ofBelow (S := fun _ => False) hb).cell (hc j u hj) id⟩)
/-- A row of the call's own. -/
structure BS (w0 w : World) (v : Value) (l : List UInt8) : Prop where
  row : RowIs w v l
  own : ∀ g, v.ownBlock = some g → w0.heap.size ≤ g
  bel : Below w0.heap.size w0 w
theorem BS.keep {w0 w w' : World} {v : Value} {l : List UInt8} (h : BS w0 w v l) (hb : Below w.heap.size w w') : BS w0 w' v l :=
  ⟨(Only.ofBelow (S := fun _ => False) hb).row h.row (fun _ _ => id), h.own, h.bel.trans (hb.mono h.bel.size)⟩
theorem BS.alloc {w0 w : World} {v : Value} {l : List UInt8} (h : BS w0 w v l) (o : Obj) : BS w0 (w.alloc o) v l := h.keep ((Below.refl _ _).alloc (Nat.le_refl _) o)
theorem BS.drewN {w0 w : World} {v : Value} {l : List UInt8} (h : BS w0 w v l) (q : Nat) : BS w0 (w.drewN q) v l := ⟨h.row, h.own, ⟨h.bel.os, h.bel.tape, h.bel.output, h.bel.size, h.bel.block⟩⟩
/-- 'string(b)' of bytes wherever they lie. -/
theorem conv_src {w : World} {v : Value} {l : List UInt8} (h : SrcIs w v l) : Sem.run Tryz.prog (convert 71 9 v) w = .ok (.string (S l)) w := by
  by_cases hl : 0 < l.length
  · obtain ⟨b, off, cap, rfl, hc⟩ := h.plain hl
    have h := run_convert_bytes_arg (P := Tryz.prog) w 71 5 Tryz.underlying71 Tryz.underlying5 b off l.length cap (l.map fun c => (c.toNat : Int)) (by simp) (fun i hi => by
      rw [hc i hi]
      simp [List.getD, List.getElem?_eq_getElem hi]) 9 Tryz.underlying9
    rw [h]
    refine congrArg (fun s => Result.ok (Value.string s) w) ?_
    simp only [strOfNums, S, List.map_map]
    clear h
    refine congrArg (fun m : List UInt8 => ByteArray.mk m.toArray) ?_
    conv => rhs; rw [← List.map_id l]
    apply List.map_congr_left
    intro c _
    simp
  · have : l = [] := List.eq_nil_of_length_eq_zero (by omega)
    subst this
    rcases h with ⟨rfl, _⟩ | ⟨a, cap, rfl, _⟩
    · exact run_convert_bytes_nil (P := Tryz.prog) w 71 5 Tryz.underlying71 Tryz.underlying5 0 0 9 Tryz.underlying9
    · rw [run_convert_bytes_string w 71 9 5 _ _ _ Tryz.underlying71 Tryz.underlying5 Tryz.underlying9]
      simp [Conv.bytesToString, loadCells, loadCellsFrom]
      rfl
/-- Cells of these bytes, from an address on. -/
def At (w : World) (a : Addr) (l : List UInt8) : Prop := ∀ j u, (Lib.byteCells l)[j]? = some u → w.cell? (a.add j) = some u
/-- Bytes behind which there is no room. -/
def FullIs (w : World) (v : Value) (l : List UInt8) : Prop := (v = .slice none 0 0 ∧ l = []) ∨ ∃ a, v = .slice (some a) l.length l.length ∧ At w a l
/-- Go's append onto such bytes makes new memory. -/
theorem append_full (w : World) (ty : TypeId) (bv : Value) (l m : List UInt8) (a : Addr) (c : Nat) (hb : FullIs w bv l) (hm : At w a m) (hm0 : 0 < m.length) (hlim : l.length + m.length ≤ 140737488355328) :
    ∃ v' w', (Builtin.append_ #[71, 71] ty #[bv, .slice (some a) m.length c]).run Tryz.prog w = .ok v' w' ∧ BS w w' v' (l ++ m) := by
  obtain ⟨i0, hi, hz0, hz1, hz2⟩ := info_parts info_u8
  have hlen : (Lib.byteCells (l ++ m)).length = (l ++ m).length * 1 := by rw [byteCells_length, Nat.mul_one]
  have grown : ∀ old : Nat, BS w (w.drew.alloc (.cells ((Lib.byteCells l).toArray ++ (Lib.byteCells m).toArray ++ Builtin.zeroCells (Value.int .u8 0).cells (grownCap w (l.length + m.length) old 5 - (l.length + m.length))) 5))
      (.slice (some ⟨w.heap.size, 0, none⟩) (l.length + m.length) (grownCap w (l.length + m.length) old 5)) (l ++ m) := by
    intro old
    have hge := grownCap_ge w (l.length + m.length) old 5
    have hcm : grownCap w (l.length + m.length) old 5 ≤ maxLen := grownCap_le_maxLen w _ old 5 (by unfold maxLen; omega)
    refine ⟨⟨hlen, .inr ⟨w.heap.size, _, _, by rw [List.length_append], Nat.zero_le _, heap_alloc_new w.drew _, by rw [List.length_append]; exact hge, hcm, ?_, ?_⟩⟩, fun g hg => by simp [Value.ownBlock] at hg; omega, (Below.refl _ w).drew.alloc (Nat.le_refl _) _⟩
    · simp only [Array.size_append, List.size_toArray, size_zeroCells, byteCells_length]
      rw [show (Value.int IntKind.u8 0).cells.size = 1 from rfl]
      omega
    · simp only [Array.toList_append, List.append_assoc]
      rw [← List.append_assoc, ← byteCells_append, ← hlen]
      exact List.take_left
  rcases hb with ⟨rfl, rfl⟩ | ⟨b, rfl, hcb⟩
  · have hr := run_append_nil (P := Tryz.prog) w 71 ty 5 i0 (.int .u8 0) Tryz.underlying71 hi hz0 a m.length c (Lib.byteCells m) (by rw [byteCells_length, hz1, Nat.mul_one]) hm hm0 (by simp at hlim; omega) (by rw [hz2]; simp at hlim; omega)
    have hgr := grown 0
    simp only [List.length_nil, Nat.zero_add, List.nil_append, show Lib.byteCells [] = [] from rfl, Array.empty_append] at hgr
    exact ⟨_, _, hr, hgr⟩
  · have hr := run_append_grow (P := Tryz.prog) w 71 ty 5 i0 (.int .u8 0) Tryz.underlying71 hi hz0 b l.length l.length (Lib.byteCells l) (by rw [byteCells_length, hz1, Nat.mul_one]) hcb a m.length c (Lib.byteCells m) (by rw [byteCells_length, hz1, Nat.mul_one]) hm (by omega) (by omega) (growslice_fits (by omega) (by rw [hz2]; omega))
    exact ⟨_, _, hr, grown l.length⟩
/-- An append whose run is known. -/
theorem wpList_append_eq {P : Program} {w : World} {ops : Array Oper} {rest : List Oper} {o : Oper} {a : Act} {Q : Exit → Act → World → Prop} (hgd : o.guard = none) (s x : Operand) (t : TypeId)
    (ho : o.op = .call { callee := .builtin .append, args := #[s, x], argTypes := #[t, t] }) (sv xv v' : Value) (w' : World) (hs : a.eval s = sv) (hx : a.eval x = xv)
    (hrun : (Builtin.append_ #[t, t] o.type #[sv, xv]).run P w = .ok v' w') (h : wpList P ops Q rest (a.put o.dst v') w') : wpList P ops Q (o :: rest) a w := by
  refine wpList_plain hgd fun K hK => ?_
  unfold Oper.wp
  simp only [execOp, ho, resolve, invoke, builtin, Sem.run_bind, Sem.run_pure, Result.andThen_ok, List.map_toArray, List.map_cons, List.map_nil, hs, hx, hrun]
  exact hK _ _ h
end Go.Proofs.YtpincofjopmaaaaGreatDoor
namespace Go.Proofs.YtpincofjopmaaaaGreatDoor
open Go.RowKit
/-- The table of operators is as at the start. -/
def OpTab (w : World) : Prop := w.rangeAt 4 0 opCells
theorem OpTab.keep {w w' : World} (h : OpTab w) (hb : Below w.heap.size w w') : OpTab w' := fun j v hj =>
  (Only.ofBelow (S := fun _ => False) hb).cell (h j v hj) id
theorem range2 {w : World} {b : Nat} {x y : Value} {t : TypeId} {fz : Nat × Nat} (h : w.heap[b]? = some (.cells #[x, y] t fz)) : w.rangeAt b 0 [x, y] := by
  intro j v hj
  match j, hj with
  | 0, hj => simp at hj; subst hj; simp [World.cell?, h]
  | 1, hj => simp at hj; subst hj; simp [World.cell?, h]
  | j + 2, hj => simp at hj
theorem set2 {w : World} {b : Nat} {x y u v : Value} {t : TypeId} {fz : Nat × Nat} (h : w.heap[b]? = some (.cells #[x, y] t fz)) : ((w.setCell ⟨b, 0, none⟩ u).setCell ⟨b, 1, none⟩ v).heap[b]? = some (.cells #[u, v] t fz) := by
  rw [heap_setCell_self (heap_setCell_self h)]
  rfl
theorem info_op2 : (Tryz.prog.info? 242).map (·.size) = some 2 := by kernel_rfl
/-- What a result cell of an operator's type holds when the call returns. -/
theorem load_op {w : World} {b : Nat} {x y : Value} {t : TypeId} {fz : Nat × Nat} (h : w.heap[b]? = some (.cells #[x, y] t fz)) : (loadVar 242 ⟨b, 0, none⟩).run Tryz.prog w = .ok (.agg #[x, y]) w :=
  run_loadVar_mid (P := Tryz.prog) w b 0 242 [x, y] _ (range2 h) Tryz.underlying242 rfl info_op2
theorem info_ops : (Tryz.prog.info? 287).map (·.size) = some opCells.length := by kernel_rfl
set_option maxHeartbeats 2000000 in
set_option maxRecDepth 100000 in
theorem find_any (F : Nat) (cp : Value) (p : Nat → Bool) (N : Nat) (he : ∀ args w, (callFunc F args).run Tryz.prog w = .ok (.enter F args) w)
    (w : World) (hO : OpTab w)
    (hF : ∀ (k : Nat) (w' : World), k < 42 → Below w.heap.size w w' → Calls Tryz.prog F #[.int .i64 k, .agg #[.string (S (nameAt k)), .int .i64 (hasAt k : Nat)], cp] w' fun e w'' => e = .returned (.bool (p k)) ∧ Below w'.heap.size w' w'')
    (hN : N ≤ 42) (hlo : ∀ j, j < N → p j = false) (hat : N < 42 → p N = true) :
    Calls Tryz.prog 283 #[.func (.func F) #[] #[cp]] w fun e w' => e = .returned (.tuple #[.int .i64 (if N < 42 then N else 0 : Nat), .agg #[.string (S (nameAt N)), .int .i64 (hasAt N : Nat)], .bool (decide (N < 42))]) ∧ Below w.heap.size w w' := by
  have HF := Lib.hid hF
  have HLO := Lib.hid hlo
  have HAT := Lib.hid hat
  have HO := Lib.hid hO
  have HE := Lib.hid he
  have HI := Lib.hid info_ops
  clear hF hlo hat hO he
  go_enter Tryz.func283, Tryz.ntmps283
  go_upto_region 1 with fail
  refine wp_region_lit ?_
  refine wpList_load_mid (by rfl) 287 _ (by rfl) 4 0 (by rfl) opCells _ (HO.out.keep ((Below.refl _ w).alloc (Nat.le_refl _) _)) Tryz.underlying287 (by rfl) HI.out ?_
  go_wp2
  go_loopw [8] (fun v8 wr => ∃ k : Nat, k ≤ N ∧ v8 = .int .i64 k ∧ wr.heap[w.heap.size]? = some (.cells #[.string ⟨#[]⟩, .int .i64 0] 242 (0, 0)) ∧ Below w.heap.size w wr) (fun v8 _ => 42 - (intOf v8).toNat)
  case atStart => exact ⟨0, Nat.zero_le _, rfl, heap_alloc_new w _, (Below.refl _ w).alloc (Nat.le_refl _) _⟩
  case round =>
    obtain ⟨k, hk, rfl, hblk, hbel⟩ := hrel
    by_cases hlt : k < 42
    · have hlt' : (k : Int) < 42 := by omega
      have hk0 : (0 : Int) ≤ k := by omega
      have hix := op_index k hlt
      have he := HE.out
      have HB := Lib.hid hblk
      clear hblk
      go_wp2_with fail
      have hbA : Below w.heap.size w (wr.alloc (.cells #[.string (S (nameAt k)), .int .i64 (hasAt k : Nat)] 242)) := hbel.alloc hbel.size _
      refine (HF.out k _ hlt hbA).mono ?_
      rintro e w1 ⟨rfl, hb1⟩
      have hres : w1.heap[w.heap.size]? = some (.cells #[.string ⟨#[]⟩, .int .i64 0] 242 (0, 0)) := (Only.ofBelow (S := fun _ => False) hb1).heap (((Only.refl (fun _ => False) wr).alloc _).heap HB.out id) id
      have hnew : w1.heap[wr.heap.size]? = some (.cells #[.string (S (nameAt k)), .int .i64 (hasAt k : Nat)] 242 (0, 0)) := (Only.ofBelow (S := fun _ => False) hb1).heap (heap_alloc_new wr _) id
      have hbw : Below w.heap.size w w1 := hbA.trans (hb1.mono hbA.size)
      clear he hix hb1 hbA
      by_cases hkn : k < N
      · rw [HLO.out k hkn]
        have HR := Lib.hid hres
        clear hres hnew
        go_wp2
        go_roundw
        case rel => exact ⟨k + 1, by omega, by go_num, HR.out, hbw⟩
        case measure => simp [intOf]; omega
      · obtain rfl : k = N := by omega
        rw [HAT.out hlt]
        have hf0 : w1.frozen? ⟨w.heap.size, 0, none⟩ = false := by simp [World.frozen?, hres]
        have hf1 : w1.frozen? ⟨w.heap.size, 1, none⟩ = false := by simp [World.frozen?, hres]
        have hc0 : w1.cell? ⟨w.heap.size, 0, none⟩ = some (.string ⟨#[]⟩) := by simp [World.cell?, hres]
        have hc1 : w1.cell? ⟨w.heap.size, 1, none⟩ = some (.int .i64 0) := by simp [World.cell?, hres]
        have hn0 : w1.cell? ⟨wr.heap.size, 0, none⟩ = some (.string (S (nameAt k))) := by simp [World.cell?, hnew]
        have hn1 : w1.cell? ⟨wr.heap.size, 1, none⟩ = some (.int .i64 (hasAt k : Nat)) := by simp [World.cell?, hnew]
        have HR := Lib.hid hres
        clear hres hnew
        go_wp2_with go_region
        have hl := load_op (w := ((w1.setCell ⟨w.heap.size, 0, none⟩ (.string (S (nameAt k)))).setCell ⟨w.heap.size, 1, none⟩ (.int .i64 (hasAt k : Nat))).drew) (set2 HR.out)
        refine bodyPost_ret (v := .tuple #[.int .i64 (k : Nat), .agg #[.string (S (nameAt k)), .int .i64 (hasAt k : Nat)], .bool true]) ?_ rfl ⟨rfl, ?_⟩
        · simp [results, Tryz.results283, asAddr, hl]
        · exact ((hbw.setCell (by simp) _).setCell (by simp) _).drew
    · obtain rfl : k = 42 := by omega
      obtain rfl : N = 42 := by omega
      have hf0 : wr.frozen? ⟨w.heap.size, 0, none⟩ = false := by simp [World.frozen?, hblk]
      have hf1 : wr.frozen? ⟨w.heap.size, 1, none⟩ = false := by simp [World.frozen?, hblk]
      have hc0 : wr.cell? ⟨w.heap.size, 0, none⟩ = some (.string ⟨#[]⟩) := by simp [World.cell?, hblk]
      have hc1 : wr.cell? ⟨w.heap.size, 1, none⟩ = some (.int .i64 0) := by simp [World.cell?, hblk]
      have HR := Lib.hid hblk
      clear hblk
      go_wp2
      have hl := load_op (w := (wr.setCell ⟨w.heap.size, 0, none⟩ (.string ⟨#[]⟩)).setCell ⟨w.heap.size, 1, none⟩ (.int .i64 0)) (set2 HR.out)
      refine bodyPost_ret (v := .tuple #[.int .i64 0, .agg #[.string (S (nameAt 42)), .int .i64 (hasAt 42 : Nat)], .bool false]) ?_ rfl ⟨rfl, ?_⟩
      · rw [at_end.1, at_end.2]
        simp [results, Tryz.results283, asAddr, hl, S]
      · exact (hbel.setCell (by simp) _).setCell (by simp) _

theorem enters_cf {f : FuncId} {fn : Func} {c : Code} (hf : Tryz.prog.funcs[f]? = some fn) (hname : (fn.name == "runtime.NumGoroutine") = false) (hb : fn.body = some c) (args : Array Value) (w : World) : (callFunc f args).run Tryz.prog w = .ok (.enter f args) w := by
  have h1 : ¬ (fn.name = "runtime.NumGoroutine") := by simpa using hname
  simp [callFunc, hf, h1, hb, mark]
set_option maxHeartbeats 2000000 in
set_option maxRecDepth 100000 in
theorem named1_any (k b : Nat) (a s : List UInt8) (h : Int) (w : World) (hc : w.cell? ⟨b, 0, none⟩ = some (.string (S s))) :
    Calls Tryz.prog 284 #[.int .i64 k, .agg #[.string (S a), .int .i64 h], .pointer (some ⟨b, 0, none⟩)] w fun e w' => e = .returned (.bool (a == s)) ∧ Below w.heap.size w w' := by
  have hcA : ∀ o : Obj, (w.alloc o).cell? ⟨b, 0, none⟩ = some (.string (S s)) := fun o => ((Only.refl (fun _ => False) w).alloc o).cell hc id
  clear hc
  go_enter Tryz.func284, Tryz.ntmps284
  go_wp2
  go_ret
  refine ⟨?_, (Below.refl _ w).alloc (Nat.le_refl _) _⟩
  show Ending.returned (.bool ((S a).toList == (S s).toList)) = _
  rw [S_toList, S_toList]
/-- What looking a name up answers. -/
def lookV (s : List UInt8) : Value := .tuple #[.int .i64 (if idx s < 42 then idx s else 0 : Nat), .agg #[.string (S (nameAt (idx s))), .int .i64 (hasAt (idx s) : Nat)], .bool (decide (idx s < 42))]
set_option maxHeartbeats 2000000 in
set_option maxRecDepth 100000 in
theorem cnamed_any (s : List UInt8) (w : World) (hO : OpTab w) :
    Calls Tryz.prog 273 #[.string (S s)] w fun e w' => e = .returned (lookV s) ∧ Below w.heap.size w w' := by
  have hmf : ∀ (fn : Fn) (first cap : Array Value) (w : World), (Instr.makeFunc fn first cap).run Tryz.prog w = .ok (.func fn first cap) w := fun _ _ _ _ => rfl
  have HO := Lib.hid hO
  clear hO
  unfold lookV
  obtain ⟨q, hq⟩ : ∃ q, q = (if idx s < 42 then idx s else 0) := ⟨_, rfl⟩
  obtain ⟨d, hd⟩ : ∃ d, d = decide (idx s < 42) := ⟨_, rfl⟩
  rw [← hq, ← hd]
  have HQ := Lib.hid hq
  have HD := Lib.hid hd
  clear hq hd
  go_enter Tryz.func273, Tryz.ntmps273
  go_wp2_with fail
  have hb0 : Below w.heap.size w ((w.alloc (.cells #[.string (S s)] 9)).alloc (.cells #[.string ⟨#[]⟩, .int .i64 0] 242)) := ((Below.refl _ w).alloc (Nat.le_refl _) _).alloc (by simp) _
  have hc0 : ((w.alloc (.cells #[.string (S s)] 9)).alloc (.cells #[.string ⟨#[]⟩, .int .i64 0] 242)).heap[w.heap.size]? = some (.cells #[.string (S s)] 9 (0, 0)) := ((Only.refl (fun _ => False) _).alloc _).heap (heap_alloc_new w _) id
  have hr0 : ((w.alloc (.cells #[.string (S s)] 9)).alloc (.cells #[.string ⟨#[]⟩, .int .i64 0] 242)).heap[w.heap.size + 1]? = some (.cells #[.string ⟨#[]⟩, .int .i64 0] 242 (0, 0)) := (heap_alloc_new' (w.alloc _) _ _ (by simp)).trans rfl
  generalize hw0 : (w.alloc (.cells #[.string (S s)] 9)).alloc (.cells #[.string ⟨#[]⟩, .int .i64 0] 242) = w0 at hb0 hc0 hr0 ⊢
  clear hw0
  have hfind := find_any 284 (.pointer (some ⟨w.heap.size, 0, none⟩)) (fun k => nameAt k == s) (idx s) (enters_cf Tryz.func284 (by kernel_rfl) rfl) w0 (HO.out.keep hb0)
    (fun k w' _ hb => named1_any k _ _ s _ w' (by simp [World.cell?, (Only.ofBelow (S := fun _ => False) hb).heap hc0 id])) (idx_le s) (fun j hj => idx_before s j hj) (fun h => idx_at s h)
  rw [← HQ.out, ← HD.out] at hfind
  refine hfind.mono ?_
  clear hfind
  rintro e w1 ⟨rfl, hb1⟩
  have hr1 : w1.heap[w.heap.size + 1]? = some (.cells #[.string ⟨#[]⟩, .int .i64 0] 242 (0, 0)) := (Only.ofBelow (S := fun _ => False) hb1).heap hr0 id
  have hbw : Below w.heap.size w w1 := hb0.trans (hb1.mono hb0.size)
  clear hb1 hb0 hc0 hr0
  have hf0 : w1.frozen? ⟨w.heap.size + 1, 0, none⟩ = false := by simp [World.frozen?, hr1]
  have hf1 : w1.frozen? ⟨w.heap.size + 1, 1, none⟩ = false := by simp [World.frozen?, hr1]
  have hd0 : w1.cell? ⟨w.heap.size + 1, 0, none⟩ = some (.string ⟨#[]⟩) := by simp [World.cell?, hr1]
  have hd1 : w1.cell? ⟨w.heap.size + 1, 1, none⟩ = some (.int .i64 0) := by simp [World.cell?, hr1]
  have HR := Lib.hid hr1
  clear hr1
  go_wp2
  have hl := load_op (w := (w1.setCell ⟨w.heap.size + 1, 0, none⟩ (.string (S (nameAt (idx s))))).setCell ⟨w.heap.size + 1, 1, none⟩ (.int .i64 (hasAt (idx s) : Nat))) (set2 HR.out)
  refine bodyPost_ret (v := .tuple #[.int .i64 (q : Nat), .agg #[.string (S (nameAt (idx s))), .int .i64 (hasAt (idx s) : Nat)], .bool d]) ?_ rfl ⟨rfl, ?_⟩
  · simp [results, Tryz.results273, asAddr, hl]
  · exact (hbw.setCell (by simp) _).setCell (by simp) _
/-- Has it a text? -/
theorem istext_any (h : Nat) (w : World) : Calls Tryz.prog 250 #[.int .i64 h] w fun e w' => e = .returned (.bool (decide (2 ≤ h))) ∧ w = w' := by
  go_enter Tryz.func250, Tryz.ntmps250
  go_wp2
  go_ret
  have hd : decide ((2 : Int) ≤ (h : Int)) = decide (2 ≤ h) := decide_eq_decide.2 (by omega)
  refine ⟨?_, rfl⟩
  show Ending.returned (.bool (decide ((2 : Int) ≤ (h : Int)))) = _
  rw [hd]
end Go.Proofs.YtpincofjopmaaaaGreatDoor
namespace Go.Proofs.YtpincofjopmaaaaGreatDoor

def letterB (c : UInt8) : Bool := (decide (97 ≤ c.toNat) && decide (c.toNat ≤ 122)) || (decide (65 ≤ c.toNat) && decide (c.toNat ≤ 90))
def digitB (c : UInt8) : Bool := decide (48 ≤ c.toNat) && decide (c.toNat ≤ 57)
/-- May this byte stand at this place of a name? -/
def okAt (i : Nat) (c : UInt8) : Bool := letterB c || (decide (i ≠ 0) && digitB c)
/-- All bytes up to the place k may stand where they do. -/
def okTo (l : List UInt8) (k : Nat) : Bool := (List.range k).all fun i => okAt i (l.getD i 0)
def nameB (l : List UInt8) : Bool := okTo l l.length && (decide (1 ≤ l.length) && decide (l.length ≤ 32))
def classB (l : List UInt8) : Bool := nameB l && decide ((l.getD 0 0).toNat ≤ 90)
def memberB (l : List UInt8) : Bool := nameB l && decide (97 ≤ (l.getD 0 0).toNat)
def kInt : List UInt8 := [105, 110, 116]
def kBool : List UInt8 := [98, 111, 111, 108]
def kText : List UInt8 := [116, 101, 120, 116]
def plainB (l : List UInt8) : Bool := decide (l = kInt) || decide (l = kBool) || decide (l = kText)
/-- Do these bytes end with a pair of brackets? -/
def endsB (l : List UInt8) : Bool := decide (2 ≤ l.length) && decide (l.drop (l.length - 2) = [91, 93])
/-- How many pairs of brackets stand at the end. -/
def deepN (l : List UInt8) : Nat := if h : endsB l = true then deepN (l.take (l.length - 2)) + 1 else 0
  termination_by l.length
  decreasing_by
    have : 2 ≤ l.length := by
      unfold endsB at h
      simp at h
      exact h.1
    rw [List.length_take]
    omega
theorem endsB_two {l : List UInt8} (h : endsB l = true) : 2 ≤ l.length := by
  unfold endsB at h
  simp at h
  exact h.1
theorem deepN_ends {l : List UInt8} (h : endsB l = true) : deepN l = deepN (l.take (l.length - 2)) + 1 := by rw [deepN, dif_pos h]
theorem deepN_not {l : List UInt8} (h : endsB l = false) : deepN l = 0 := by rw [deepN, dif_neg (by rw [h]; decide)]
theorem deepN_le (l : List UInt8) : 2 * deepN l ≤ l.length := by
  cases h : endsB l with
  | true =>
    have h2 := endsB_two h
    have ih := deepN_le (l.take (l.length - 2))
    rw [List.length_take] at ih
    rw [deepN_ends h]
    omega
  | false => rw [deepN_not h]; omega
  termination_by l.length
  decreasing_by rw [List.length_take]; omega
/-- What is ahead of the brackets. -/
def baseL (l : List UInt8) : List UInt8 := l.take (l.length - 2 * deepN l)
theorem baseL_length (l : List UInt8) : (baseL l).length = l.length - 2 * deepN l := by unfold baseL; rw [List.length_take]; omega
def baseB (l : List UInt8) : Bool := plainB l || classB l
def rightB (l : List UInt8) : Bool := decide (deepN l ≤ 3) && baseB (baseL l)
def elemL (l : List UInt8) : List UInt8 := if rightB l = true ∧ 1 ≤ deepN l then l.take (l.length - 2) else []
/-- Where the first point stands (behind the end: nowhere). -/
def dotAt (l : List UInt8) : Nat := l.findIdx (fun c => c == 46)
def partsB (l : List UInt8) : Bool := decide (dotAt l < l.length) && (classB (l.take (dotAt l)) && memberB (l.drop (dotAt l + 1)))

theorem okTo_succ (l : List UInt8) (k : Nat) : okTo l (k + 1) = (okTo l k && okAt k (l.getD k 0)) := by
  unfold okTo
  rw [List.range_succ, List.all_append]
  simp
theorem okTo_zero (l : List UInt8) : okTo l 0 = true := by simp [okTo]
theorem okTo_le (l : List UInt8) (k m : Nat) (hkm : k ≤ m) (h : okTo l k = false) : okTo l m = false := by
  unfold okTo at h ⊢
  rw [List.all_eq_false] at h ⊢
  obtain ⟨i, hi, hn⟩ := h
  exact ⟨i, by simp at hi ⊢; omega, hn⟩
theorem nameB_pos {l : List UInt8} (h : nameB l = true) : 1 ≤ l.length ∧ l.length ≤ 32 := by
  unfold nameB at h
  simp at h
  exact h.2
theorem nameB_ok {l : List UInt8} (h : nameB l = true) (i : Nat) (hi : i < l.length) : okAt i (l.getD i 0) = true := by
  unfold nameB okTo at h
  simp only [Bool.and_eq_true, List.all_eq_true] at h
  exact h.1 i (by simpa using hi)
/-- A name has no bracket. -/
theorem okAt_le (i : Nat) (c : UInt8) (h : okAt i c = true) : c ≠ 91 ∧ c ≠ 93 ∧ c ≠ 46 := by
  refine ⟨?_, ?_, ?_⟩ <;> (rintro rfl; revert h; unfold okAt; cases i <;> simp <;> decide)
theorem nameB_ends {l : List UInt8} (h : nameB l = true) : endsB l = false := by
  cases he : endsB l with
  | false => rfl
  | true =>
    exfalso
    have h2 := endsB_two he
    unfold endsB at he
    simp at he
    have hd : (l.drop (l.length - 2))[0]? = some 91 := by rw [he.2]; rfl
    rw [List.getElem?_drop, Nat.add_zero] at hd
    have hk : l.getD (l.length - 2) 0 = 91 := by simp [List.getD, hd]
    exact (okAt_le _ _ (nameB_ok h (l.length - 2) (by omega))).1 hk
theorem plainB_name {l : List UInt8} (h : plainB l = true) : nameB l = true := by
  unfold plainB at h
  simp at h
  rcases h with (h | h) | h <;> subst h <;> decide
theorem plainB_class {l : List UInt8} (h : plainB l = true) : classB l = false := by
  unfold plainB at h
  simp at h
  rcases h with (h | h) | h <;> subst h <;> decide
theorem classB_name {l : List UInt8} (h : classB l = true) : nameB l = true := by unfold classB at h; simp at h; exact h.1
theorem baseB_name {l : List UInt8} (h : baseB l = true) : nameB l = true := by
  unfold baseB at h
  simp at h
  rcases h with h | h
  · exact plainB_name h
  · exact classB_name h
/-- Arrays of it. -/
def ofL (l : List UInt8) : List UInt8 := l ++ [91, 93]
theorem ofL_length (l : List UInt8) : (ofL l).length = l.length + 2 := by simp [ofL]
theorem ofL_ends (l : List UInt8) : endsB (ofL l) = true := by
  unfold endsB
  rw [ofL_length]
  simp [ofL]
theorem ofL_take (l : List UInt8) : (ofL l).take ((ofL l).length - 2) = l := by
  rw [ofL_length]
  simp [ofL]
theorem ofL_deep (l : List UInt8) : deepN (ofL l) = deepN l + 1 := by rw [deepN_ends (ofL_ends l), ofL_take]
theorem ofL_base (l : List UInt8) : baseL (ofL l) = baseL l := by
  have h := deepN_le l
  unfold baseL
  rw [ofL_deep, ofL_length]
  unfold ofL
  rw [List.take_append_of_le_length (by omega)]
  congr 1
  omega
theorem ends_of {l : List UInt8} (h : endsB l = true) : ofL (l.take (l.length - 2)) = l := by
  unfold endsB at h
  simp at h
  unfold ofL
  rw [← h.2]
  exact List.take_append_drop _ _
theorem deep_ends {l : List UInt8} (h : 1 ≤ deepN l) : endsB l = true := by
  cases he : endsB l with
  | true => rfl
  | false => rw [deepN_not he] at h; omega
theorem ofL_right (l : List UInt8) : rightB (ofL l) = (rightB l && decide (deepN l ≤ 2)) := by
  unfold rightB
  rw [ofL_deep, ofL_base]
  by_cases h : deepN l ≤ 2
  · have h3 : deepN l ≤ 3 := by omega
    simp [h, h3]
  · simp [h]
theorem elem_of (l : List UInt8) (h : rightB l = true) (hd : deepN l ≤ 2) : elemL (ofL l) = l := by
  unfold elemL
  rw [if_pos ⟨by rw [ofL_right, h]; simpa using hd, by rw [ofL_deep]; omega⟩, ofL_take]
theorem elem_right {l : List UInt8} (h : rightB l = true) (hd : 1 ≤ deepN l) : rightB (elemL l) = true ∧ deepN (elemL l) = deepN l - 1 ∧ ofL (elemL l) = l := by
  have he := deep_ends hd
  have e1 : elemL l = l.take (l.length - 2) := by unfold elemL; rw [if_pos ⟨h, hd⟩]
  have e2 : ofL (elemL l) = l := by rw [e1]; exact ends_of he
  have e3 := ofL_right (elemL l)
  have e4 := ofL_deep (elemL l)
  rw [e2] at e3 e4
  rw [h] at e3
  have e5 : rightB (elemL l) = true := by
    cases hr : rightB (elemL l) with
    | true => rfl
    | false => rw [hr] at e3; simp at e3
  exact ⟨e5, by omega, e2⟩
theorem right_base {l : List UInt8} (h : rightB l = true) : nameB (baseL l) = true := by
  unfold rightB at h
  simp at h
  exact baseB_name h.2
theorem base_deep {l : List UInt8} (h : nameB l = true) : deepN l = 0 := deepN_not (nameB_ends h)
/-- A kind with brackets has three bytes at least. -/
theorem right_three {l : List UInt8} (h : rightB l = true) (hd : 1 ≤ deepN l) : 3 ≤ l.length := by
  have h1 := (nameB_pos (right_base h)).1
  rw [baseL_length] at h1
  omega
end Go.Proofs.YtpincofjopmaaaaGreatDoor
