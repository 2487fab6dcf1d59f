/-
  Strings and bytes: a list of bytes as a string, conversions there and back.
  Conditions: none of its own.
-/
import Derived.Test.YtcoobdbfgiiejaaGreatDoorMem
import Derived.Test.YtcoobdbfgiiejaaGreatDoorS
import Derived.Test.YtcoobdbfgiiejaaGreatDoorProg
import Derived.Laws.BytesArg
import Derived.Lib.Bytes
import Derived.Lib.ConvBytes
namespace Go.Proofs.YtcoobdbfgiiejaaGreatDoor
open Go.RowKit
theorem info_u8 : (Tryz.prog.info? 5).map (fun i => (i.zero, i.size, i.bytes)) = some (some (.int .u8 0), 1, 1) := by kernel_rfl
theorem conv_row (w : World) (b n cap : Nat) (l : List UInt8) (hl : l.length = n) (hc : ∀ j, j < n → w.cell? ⟨b, j, none⟩ = (Lib.byteCells l)[j]?) :
    Sem.run Tryz.prog (convert 25 9 (.slice (some ⟨b, 0, none⟩) n cap)) w = .ok (.string (S l)) w := by
  have h := run_convert_bytes_arg (P := Tryz.prog) w 25 5 Tryz.underlying25 Tryz.underlying5 b 0 n cap (l.map fun c => (c.toNat : Int)) (by simpa using hl) (fun i hi => by
    rw [Nat.zero_add, hc i hi, byteCells_at]
    have : i < l.length := by omega
    simp [List.getD, List.getElem?_eq_getElem this]) 9 Tryz.underlying9
  rw [h]
  refine congrArg (fun s => Result.ok (Value.string s) w) ?_
  simp only [strOfNums, S, List.map_map]
  clear h
  refine congrArg (fun m : List UInt8 => ByteArray.mk m.toArray) ?_
  conv => rhs; rw [← List.map_id l]
  apply List.map_congr_left
  intro c _
  simp
theorem conv_one (w : World) (c : UInt8) (z : Int) (hz : z = (c.toNat : Int)) :
    Sem.run Tryz.prog (convert 25 9 (.slice (some ⟨w.heap.size, 0, none⟩) 1 1)) (w.alloc (.cells #[.int .u8 z] 5)) = .ok (.string (S [c])) (w.alloc (.cells #[.int .u8 z] 5)) := by
  refine conv_row _ _ 1 1 [c] rfl (fun j hj => ?_)
  obtain rfl : j = 0 := by omega
  subst hz
  simp [Lib.byteCells]
theorem conv_owned {w : World} {v : Value} {l : List UInt8} (h : RowIs w v l) : Sem.run Tryz.prog (convert 25 9 v) w = .ok (.string (S l)) w := by
  rcases h.2 with ⟨rfl, h0⟩ | ⟨g, cap, cur, rfl, hb, hgg, hn, _, hcs, htake⟩
  · have : l = [] := List.eq_nil_of_length_eq_zero h0
    subst this
    exact run_convert_bytes_nil (P := Tryz.prog) w 25 5 Tryz.underlying25 Tryz.underlying5 0 0 9 Tryz.underlying9
  · exact conv_row w g l.length cap l rfl (fun j hj => h.cellAt j (by omega))
/-- '[]byte(s)'. -/
theorem conv_back (s : List UInt8) (w : World) :
    Sem.run Tryz.prog (convert 9 25 (.string (S s))) w = .ok (.slice (some ⟨w.heap.size, 0, none⟩) s.length (grownCap w s.length 0 5)) (Lib.bytesWorld w 5 (S s)) := by
  have h := Lib.run_convert_string_bytes (P := Tryz.prog) w 9 25 5 (S s) Tryz.underlying9 Tryz.underlying25 Tryz.underlying5
  rw [S_size] at h
  exact h
theorem src_back (s : List UInt8) (w : World) (c : Nat) : SrcIs (Lib.bytesWorld w 5 (S s)) (.slice (some ⟨w.heap.size, 0, none⟩) s.length c) s := by
  refine .inr ⟨_, c, rfl, fun j u hj => ?_⟩
  have hjl : j < s.length := by
    rcases Nat.lt_or_ge j s.length with h | h
    · exact h
    · simp [byteCells_at, List.getElem?_eq_none h] at hj
  have ha : (⟨w.heap.size, 0, none⟩ : Addr).add j = ⟨w.heap.size, j, none⟩ := by unfold Addr.add; split <;> simp_all
  rw [ha, Lib.bytesWorld_cell w _ (S s) j (by rw [S_size]; exact hjl), S_list, ← hj, byteCells_at, List.getElem?_eq_getElem hjl]
  simp [List.getD, List.getElem?_eq_getElem hjl]
theorem below_back (s : List UInt8) (w : World) : Below w.heap.size w (Lib.bytesWorld w 5 (S s)) :=
  ⟨rfl, rfl, rfl, by rw [Lib.bytesWorld_size]; omega, fun k hk => Lib.bytesWorld_at_old w _ (S s) k hk⟩
theorem add_plain' {a : Addr} {w : World} {v : Value} (h : w.cell? a = some v) : ∃ b off, a = ⟨b, off, none⟩ := by
  obtain ⟨b, off, sp⟩ := a
  cases sp with
  | none => exact ⟨b, off, rfl⟩
  | some q =>
    exfalso
    unfold World.cell? at h
    split at h
    · simp at h
    · cases h
theorem setCells_below {B g : Nat} (hg : B ≤ g) : ∀ (vs : List Value) (o : Nat) (a w : World), Below B a w → Below B a (w.setCells g o vs)
  | [], _, _, _, h => h
  | v :: vs, o, a, w, h => setCells_below hg vs (o + 1) a (w.setCell ⟨g, o, none⟩ v) (h.setCell hg _)
theorem heap_alloc_new' (w : World) (o : Obj) (b : Nat) (h : b = w.heap.size) : (w.alloc o).heap[b]? = some o := by rw [h]; exact heap_alloc_new w o
/-- A slice of bytes that has some lies in a block. -/
theorem SrcIs.plain {w : World} {v : Value} {l : List UInt8} (h : SrcIs w v l) (hl : 0 < l.length) : ∃ b off cap, v = .slice (some ⟨b, off, none⟩) l.length cap ∧ ∀ j, j < l.length → w.cell? ⟨b, off + j, none⟩ = some (.int .u8 (l.getD j 0).toNat) := by
  rcases h with ⟨_, rfl⟩ | ⟨a, cap, rfl, hc⟩
  · simp at hl
  · have key : ∀ j, j < l.length → w.cell? (a.add j) = some (.int .u8 (l.getD j 0).toNat) := fun j hj => by
      refine hc j _ ?_
      rw [byteCells_at, List.getElem?_eq_getElem hj]
      simp [List.getD, List.getElem?_eq_getElem hj]
    obtain ⟨b, off, sp⟩ := a
    cases sp with
    | some q =>
      obtain ⟨b', off', e⟩ := add_plain' (key 0 hl)
      unfold Addr.add at e
      split at e <;> simp_all
    | none =>
      refine ⟨b, off, cap, rfl, fun j hj => ?_⟩
      have := key j hj
      rw [show (⟨b, off, none⟩ : Addr).add j = ⟨b, off + j, none⟩ by unfold Addr.add; split <;> simp_all] at this
      exact this
theorem SrcIs.below {w w' : World} {v : Value} {l : List UInt8} (h : SrcIs w v l) (hb : Below w.heap.size w w') : SrcIs w' v l :=
  h.imp id (fun ⟨a, cap, hv, hc⟩ => ⟨a, cap, hv, fun j u hj => (Only.ofBelow (S := fun _ => False) hb).cell (hc j u hj) id⟩)
/-- A row of the call's own. -/
structure BS (w0 w : World) (v : Value) (l : List UInt8) : Prop where
  row : RowIs w v l
  own : ∀ g, v.ownBlock = some g → w0.heap.size ≤ g
  bel : Below w0.heap.size w0 w
theorem BS.keep {w0 w w' : World} {v : Value} {l : List UInt8} (h : BS w0 w v l) (hb : Below w.heap.size w w') : BS w0 w' v l :=
  ⟨(Only.ofBelow (S := fun _ => False) hb).row h.row (fun _ _ => id), h.own, h.bel.trans (hb.mono h.bel.size)⟩
theorem BS.alloc {w0 w : World} {v : Value} {l : List UInt8} (h : BS w0 w v l) (o : Obj) : BS w0 (w.alloc o) v l := h.keep ((Below.refl _ _).alloc (Nat.le_refl _) o)
theorem BS.drewN {w0 w : World} {v : Value} {l : List UInt8} (h : BS w0 w v l) (q : Nat) : BS w0 (w.drewN q) v l := ⟨h.row, h.own, ⟨h.bel.os, h.bel.tape, h.bel.output, h.bel.size, h.bel.block⟩⟩
/-- 'string(b)' of bytes wherever they lie. -/
theorem conv_src {w : World} {v : Value} {l : List UInt8} (h : SrcIs w v l) : Sem.run Tryz.prog (convert 25 9 v) w = .ok (.string (S l)) w := by
  by_cases hl : 0 < l.length
  · obtain ⟨b, off, cap, rfl, hc⟩ := h.plain hl
    have h := run_convert_bytes_arg (P := Tryz.prog) w 25 5 Tryz.underlying25 Tryz.underlying5 b off l.length cap (l.map fun c => (c.toNat : Int)) (by simp) (fun i hi => by
      rw [hc i hi]
      simp [List.getD, List.getElem?_eq_getElem hi]) 9 Tryz.underlying9
    rw [h]
    refine congrArg (fun s => Result.ok (Value.string s) w) ?_
    simp only [strOfNums, S, List.map_map]
    clear h
    refine congrArg (fun m : List UInt8 => ByteArray.mk m.toArray) ?_
    conv => rhs; rw [← List.map_id l]
    apply List.map_congr_left
    intro c _
    simp
  · have : l = [] := List.eq_nil_of_length_eq_zero (by omega)
    subst this
    rcases h with ⟨rfl, _⟩ | ⟨a, cap, rfl, _⟩
    · exact run_convert_bytes_nil (P := Tryz.prog) w 25 5 Tryz.underlying25 Tryz.underlying5 0 0 9 Tryz.underlying9
    · rw [run_convert_bytes_string w 25 9 5 _ _ _ Tryz.underlying25 Tryz.underlying5 Tryz.underlying9]
      simp [Conv.bytesToString, loadCells, loadCellsFrom]
      rfl
/-- Cells of these bytes, from an address on. -/
def At (w : World) (a : Addr) (l : List UInt8) : Prop := ∀ j u, (Lib.byteCells l)[j]? = some u → w.cell? (a.add j) = some u
/-- Bytes behind which there is no room. -/
def FullIs (w : World) (v : Value) (l : List UInt8) : Prop := (v = .slice none 0 0 ∧ l = []) ∨ ∃ a, v = .slice (some a) l.length l.length ∧ At w a l
/-- Go's append onto such bytes makes new memory. -/
theorem append_full (w : World) (ty : TypeId) (bv : Value) (l m : List UInt8) (a : Addr) (c : Nat) (hb : FullIs w bv l) (hm : At w a m) (hm0 : 0 < m.length) (hlim : l.length + m.length ≤ 140737488355328) :
    ∃ v' w', (Builtin.append_ #[25, 25] ty #[bv, .slice (some a) m.length c]).run Tryz.prog w = .ok v' w' ∧ BS w w' v' (l ++ m) := by
  obtain ⟨i0, hi, hz0, hz1, hz2⟩ := info_parts info_u8
  have hlen : (Lib.byteCells (l ++ m)).length = (l ++ m).length * 1 := by rw [byteCells_length, Nat.mul_one]
  have grown : ∀ old : Nat, BS w (w.drew.alloc (.cells ((Lib.byteCells l).toArray ++ (Lib.byteCells m).toArray ++ Builtin.zeroCells (Value.int .u8 0).cells (grownCap w (l.length + m.length) old 5 - (l.length + m.length))) 5))
      (.slice (some ⟨w.heap.size, 0, none⟩) (l.length + m.length) (grownCap w (l.length + m.length) old 5)) (l ++ m) := by
    intro old
    have hge := grownCap_ge w (l.length + m.length) old 5
    have hcm : grownCap w (l.length + m.length) old 5 ≤ maxLen := grownCap_le_maxLen w _ old 5 (by unfold maxLen; omega)
    refine ⟨⟨hlen, .inr ⟨w.heap.size, _, _, by rw [List.length_append], Nat.zero_le _, heap_alloc_new w.drew _, by rw [List.length_append]; exact hge, hcm, ?_, ?_⟩⟩, fun g hg => by simp [Value.ownBlock] at hg; omega, (Below.refl _ w).drew.alloc (Nat.le_refl _) _⟩
    · simp only [Array.size_append, List.size_toArray, size_zeroCells, byteCells_length]
      rw [show (Value.int IntKind.u8 0).cells.size = 1 from rfl]
      omega
    · simp only [Array.toList_append, List.append_assoc]
      rw [← List.append_assoc, ← byteCells_append, ← hlen]
      exact List.take_left
  rcases hb with ⟨rfl, rfl⟩ | ⟨b, rfl, hcb⟩
  · have hr := run_append_nil (P := Tryz.prog) w 25 ty 5 i0 (.int .u8 0) Tryz.underlying25 hi hz0 a m.length c (Lib.byteCells m) (by rw [byteCells_length, hz1, Nat.mul_one]) hm hm0 (by simp at hlim; omega) (by rw [hz2]; simp at hlim; omega)
    have hgr := grown 0
    simp only [List.length_nil, Nat.zero_add, List.nil_append, show Lib.byteCells [] = [] from rfl, Array.empty_append] at hgr
    exact ⟨_, _, hr, hgr⟩
  · have hr := run_append_grow (P := Tryz.prog) w 25 ty 5 i0 (.int .u8 0) Tryz.underlying25 hi hz0 b l.length l.length (Lib.byteCells l) (by rw [byteCells_length, hz1, Nat.mul_one]) hcb a m.length c (Lib.byteCells m) (by rw [byteCells_length, hz1, Nat.mul_one]) hm (by omega) (by omega) (growslice_fits (by omega) (by rw [hz2]; omega))
    exact ⟨_, _, hr, grown l.length⟩
/-- An append whose run is known. -/
theorem wpList_append_eq {P : Program} {w : World} {ops : Array Oper} {rest : List Oper} {o : Oper} {a : Act} {Q : Exit → Act → World → Prop} (hgd : o.guard = none) (s x : Operand) (t : TypeId)
    (ho : o.op = .call { callee := .builtin .append, args := #[s, x], argTypes := #[t, t] }) (sv xv v' : Value) (w' : World) (hs : a.eval s = sv) (hx : a.eval x = xv)
    (hrun : (Builtin.append_ #[t, t] o.type #[sv, xv]).run P w = .ok v' w') (h : wpList P ops Q rest (a.put o.dst v') w') : wpList P ops Q (o :: rest) a w := by
  refine wpList_plain hgd fun K hK => ?_
  unfold Oper.wp
  simp only [execOp, ho, resolve, invoke, builtin, Sem.run_bind, Sem.run_pure, Result.andThen_ok, List.map_toArray, List.map_cons, List.map_nil, hs, hx, hrun]
  exact hK _ _ h
end Go.Proofs.YtcoobdbfgiiejaaGreatDoor
