/-
  strings.Lines: the iterator over the lines of a text, as the law of RangeBox wants it.
-/
import Derived.Test.YtcoobdbfgiiejaaGreatDoorCRead2
import Derived.Test.YtcoobdbfgiiejaaGreatDoorRangeBox
import Derived.RangeFuncBound
import Derived.RangeFuncCalls
import Derived.RangeFuncLeaves
import Derived.Shelf.Abstract
import Derived.Shelf.RegionOpen
import Derived.WalkKit
import Derived.OwnWalkIn
import Derived.TacticsInMore
import Derived.LoopNIn
import Derived.LoopIn
namespace Go.Proofs.YtcoobdbfgiiejaaGreatDoor
open Go.RowKit Go.Shelf
attribute [local go_sem] Oper.semAt_some
/-- The place of the first line feed, the length if there is none. -/
def lfAt (l : List UInt8) : Nat := l.findIdx (fun c => c == 10)
def lineL (l : List UInt8) : List UInt8 := l.take (lfAt l + 1)
def restLf (l : List UInt8) : List UInt8 := l.drop (lfAt l + 1)
theorem line_rest (l : List UInt8) : lineL l ++ restLf l = l := List.take_append_drop _ _
def linesN : Nat → List UInt8 → List (List UInt8)
  | 0, _ => []
  | k + 1, l => if l = [] then [] else lineL l :: linesN k (restLf l)
def linesL (l : List UInt8) : List (List UInt8) := linesN l.length l
theorem restLf_lt {l : List UInt8} (h : l ≠ []) : (restLf l).length < l.length := by
  have := List.length_pos_iff.2 h
  unfold restLf
  rw [List.length_drop]
  omega
theorem linesN_enough (k : Nat) (l : List UInt8) (h : l.length ≤ k) : linesN k l = linesL l := by
  induction k using Nat.strongRecOn generalizing l with
  | _ k ih =>
    by_cases hl : l = []
    · subst hl
      cases k <;> simp [linesL, linesN]
    · have hp := List.length_pos_iff.2 hl
      have hr := restLf_lt hl
      obtain ⟨k', rfl⟩ : ∃ k', k = k' + 1 := ⟨k - 1, by omega⟩
      obtain ⟨m, hm⟩ : ∃ m, l.length = m + 1 := ⟨l.length - 1, by omega⟩
      unfold linesL
      rw [hm, linesN, linesN, if_neg hl, if_neg hl, ih k' (by omega) _ (by omega)]
      by_cases hmk : m < k' + 1
      · rw [ih m hmk _ (by omega)]
      · omega
theorem linesL_nil : linesL [] = [] := rfl
theorem linesL_cons {l : List UInt8} (h : l ≠ []) : linesL l = lineL l :: linesL (restLf l) := by
  have hp := List.length_pos_iff.2 h
  have hr := restLf_lt h
  obtain ⟨m, hm⟩ : ∃ m, l.length = m + 1 := ⟨l.length - 1, by omega⟩
  conv => lhs; unfold linesL
  rw [hm, linesN, if_neg h, linesN_enough m _ (by omega)]
theorem index_lf (l : List UInt8) : Lib.indexByte l 10 = if lfAt l < l.length then (lfAt l : Int) else -1 := by
  unfold lfAt
  induction l with
  | nil => rfl
  | cons b l ih =>
    rw [Lib.indexByte, List.findIdx_cons, ih]
    cases hb : (b == 10) with
    | true => simp
    | false =>
      have hle : List.findIdx (fun c => c == 10) l ≤ l.length := List.findIdx_le_length
      simp only [Bool.false_eq_true, if_false, cond_false, List.length_cons]
      by_cases h : List.findIdx (fun c => c == 10) l < l.length
      · have h1 : List.findIdx (fun c => c == 10) l + 1 < l.length + 1 := by omega
        rw [if_pos h, if_pos h1, if_neg (by simp)]
        omega
      · have h1 : ¬ List.findIdx (fun c => c == 10) l + 1 < l.length + 1 := by omega
        rw [if_neg h, if_neg h1]
        rfl
set_option maxRecDepth 100000 in
theorem sindexbyte_any (s : ByteArray) (c : Int) (w : World) :
    Calls Tryz.prog 74 #[.string s, .int .u8 c] w fun e w' => e = .returned (.int .i64 (Lib.indexByte s.data.toList c.toNat.toUInt8)) ∧ w = w' := by
  go_enter Tryz.func74, Tryz.ntmps74
  go_wp2_with (go_at_call 93; refine (indexbyte_any _ _ _).mono ?_; rintro e w' ⟨rfl, rfl⟩)
  go_ret
  exact ⟨rfl, rfl⟩
set_option maxRecDepth 100000 in
theorem lines_any (s : List UInt8) (w : World) :
    Calls Tryz.prog 48 #[.string (S s)] w fun e w' => e = .returned (.func (.func 73) #[] #[.pointer (some ⟨w.heap.size, 0, none⟩)]) ∧ w' = w.alloc (.cells #[.string (S s)] 9) := by
  go_enter Tryz.func48, Tryz.ntmps48
  go_wp2
  go_ret
  exact ⟨rfl, rfl⟩
/-- How long the text in the box is. -/
def leftN (B : Nat) (W : World) : Nat := match W.cell? ⟨B, 0, none⟩ with
  | some (.string s) => s.size
  | _ => 0
theorem leftN_eq {B : Nat} {W : World} {t : TypeId} {l : List UInt8} (h : Boxed W B t (.string (S l))) : leftN B W = l.length := by
  unfold leftN
  rw [h.cell]
  exact S_size l
end Go.Proofs.YtcoobdbfgiiejaaGreatDoor
