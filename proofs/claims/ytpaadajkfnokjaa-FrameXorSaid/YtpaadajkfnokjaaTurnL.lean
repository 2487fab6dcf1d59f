/-
  Plain mathematics of turned bytes: what Turn makes of a list of bytes, step by step, and that turned again it is itself.
  Conditions: none; no program is named here.
-/
import Derived.Test.YtpaadajkfnokjaaCrc
namespace Go.Proofs.Ytpaadajkfnokjaa

/-- Bytes turned by others from one place on. -/
def turnL (l : List UInt8) (at_ : Int) (by_ : List UInt8) : List UInt8 := l.mapIdx fun j c => if at_ ≤ (j : Int) then c ^^^ by_.getD ((j : Int) - at_).toNat 0 else c
theorem turnL_length (l : List UInt8) (at_ : Int) (by_ : List UInt8) : (turnL l at_ by_).length = l.length := by simp [turnL]
theorem turnL_at (l : List UInt8) (at_ : Int) (by_ : List UInt8) (j : Nat) : (turnL l at_ by_)[j]? = (l[j]?).map fun c => if at_ ≤ (j : Int) then c ^^^ by_.getD ((j : Int) - at_).toNat 0 else c := by
  simp [turnL, List.getElem?_mapIdx]
theorem u8_xor_zero (c : UInt8) : c ^^^ 0 = c := by simp
theorem turnL_nil (l : List UInt8) (at_ : Int) : turnL l at_ [] = l := by
  apply List.ext_getElem?
  intro j
  rw [turnL_at]
  cases l[j]? with
  | none => rfl
  | some c => simp
theorem turnL_twice (l : List UInt8) (at_ : Int) (by_ : List UInt8) : turnL (turnL l at_ by_) at_ by_ = l := by
  apply List.ext_getElem?
  intro j
  rw [turnL_at, turnL_at]
  cases l[j]? with
  | none => rfl
  | some c =>
    simp only [Option.map_some]
    congr 1
    by_cases h : at_ ≤ (j : Int)
    · rw [if_pos h, if_pos h, UInt8.xor_assoc, UInt8.xor_self, UInt8.xor_zero]
    · rw [if_neg h, if_neg h]
theorem getD_take (b : List UInt8) (k j : Nat) : (b.take k).getD j 0 = if j < k then b.getD j 0 else 0 := by
  simp only [List.getD, List.getElem?_take]
  split <;> rfl
/-- One byte more has a place. -/
theorem turnL_in (l : List UInt8) (at_ : Int) (b : List UInt8) (k i : Nat) (hi : (i : Int) = at_ + k) :
    turnL l at_ (b.take (k + 1)) = (turnL l at_ (b.take k)).set i (((turnL l at_ (b.take k)).getD i 0) ^^^ b.getD k 0) := by
  apply List.ext_getElem?
  intro j
  rw [turnL_at, List.getElem?_set]
  by_cases hj : i = j
  · subst hj
    rw [if_pos rfl, turnL_length]
    by_cases hl : i < l.length
    · have e1 : (turnL l at_ (b.take k)).getD i 0 = l[i] := by
        rw [List.getD, turnL_at, List.getElem?_eq_getElem hl]
        simp only [Option.map_some, Option.getD_some]
        rw [if_pos (by omega), getD_take, if_neg (by omega)]
        simp
      rw [if_pos hl, e1, List.getElem?_eq_getElem hl]
      simp only [Option.map_some]
      rw [if_pos (by omega), getD_take, if_pos (by omega), show ((i : Int) - at_).toNat = k by omega]
    · rw [if_neg hl, List.getElem?_eq_none (by omega)]
      rfl
  · rw [if_neg hj, turnL_at]
    cases l[j]? with
    | none => rfl
    | some c =>
      simp only [Option.map_some]
      congr 1
      by_cases h : at_ ≤ (j : Int)
      · rw [if_pos h, if_pos h, getD_take, getD_take]
        by_cases h2 : ((j : Int) - at_).toNat < k
        · rw [if_pos h2, if_pos (by omega)]
        · rw [if_neg h2, if_neg (by omega)]
      · rw [if_neg h, if_neg h]
/-- One byte more has no place. -/
theorem turnL_out (l : List UInt8) (at_ : Int) (b : List UInt8) (k : Nat) (hi : at_ + k < 0 ∨ (l.length : Int) ≤ at_ + k) :
    turnL l at_ (b.take (k + 1)) = turnL l at_ (b.take k) := by
  apply List.ext_getElem?
  intro j
  rw [turnL_at, turnL_at]
  by_cases hl : j < l.length
  · rw [List.getElem?_eq_getElem hl]
    simp only [Option.map_some]
    congr 1
    by_cases h : at_ ≤ (j : Int)
    · rw [if_pos h, if_pos h, getD_take, getD_take]
      by_cases h2 : ((j : Int) - at_).toNat < k
      · rw [if_pos h2, if_pos (by omega)]
      · rw [if_neg h2, if_neg (by omega)]
    · rw [if_neg h, if_neg h]
  · rw [List.getElem?_eq_none (by omega)]
    rfl
/-- From the first place on. -/
theorem turnL_zero (l b : List UInt8) : turnL l 0 b = xorL l b := by
  induction l generalizing b with
  | nil => rfl
  | cons x l ih =>
    cases b with
    | nil => rw [turnL_nil]; rfl
    | cons y m =>
      show _ = (x ^^^ y) :: xorL l m
      rw [← ih m]
      apply List.ext_getElem?
      intro j
      rw [turnL_at]
      cases j with
      | zero => simp
      | succ j =>
        rw [List.getElem?_cons_succ, List.getElem?_cons_succ, turnL_at]
        cases l[j]? with
        | none => rfl
        | some c =>
          simp only [Option.map_some]
          rw [if_pos (by omega), if_pos (by omega), show (((j + 1 : Nat) : Int) - 0).toNat = j + 1 by omega, show ((j : Int) - 0).toNat = j by omega]
          rfl
end Go.Proofs.Ytpaadajkfnokjaa
