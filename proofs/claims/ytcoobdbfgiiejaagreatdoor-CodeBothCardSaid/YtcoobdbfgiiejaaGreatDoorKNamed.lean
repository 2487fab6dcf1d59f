/-
  The contracts of package kind's upper, lower, digit, of the closure of Name, and of named: names that begin with a letter of one sort.
  Conditions: the text has at most 2^40 bytes; the test that is handed to named answers without touching memory, and yes at letters alone.
-/
import Derived.Test.YtcoobdbfgiiejaaGreatDoorKLib
import Derived.Laws.RangeAny
namespace Go.Proofs.YtcoobdbfgiiejaaGreatDoor
open Go.RowKit
/-- May this byte stand at this place of a name that begins by the test p? -/
def okP (p : Int → Bool) (i : Nat) (c : UInt8) : Bool := (decide (i ≠ 0) || p c.toNat) && (letterB c || digitB c)
def okPTo (p : Int → Bool) (l : List UInt8) (k : Nat) : Bool := (List.range k).all fun i => okP p i (l.getD i 0)
def namedB (p : Int → Bool) (l : List UInt8) : Bool := okPTo p l l.length && (decide (1 ≤ l.length) && decide (l.length ≤ 32))
theorem okPTo_succ (p : Int → Bool) (l : List UInt8) (k : Nat) : okPTo p l (k + 1) = (okPTo p l k && okP p k (l.getD k 0)) := by
  unfold okPTo
  rw [List.range_succ, List.all_append]
  simp
theorem okPTo_zero (p : Int → Bool) (l : List UInt8) : okPTo p l 0 = true := by simp [okPTo]
theorem namedB_bad {p : Int → Bool} {l : List UInt8} {k : Nat} (hk : k < l.length) (h : okP p k (l.getD k 0) = false) : namedB p l = false := by
  have h1 : okPTo p l l.length = false := by
    unfold okPTo
    rw [List.all_eq_false]
    exact ⟨k, by simpa using hk, by rw [h]; decide⟩
  unfold namedB
  rw [h1, Bool.false_and]
theorem namedB_long {p : Int → Bool} {l : List UInt8} (h : 32 < l.length) : namedB p l = false := by
  unfold namedB
  rw [decide_eq_false (show ¬ l.length ≤ 32 by omega), Bool.and_false, Bool.and_false]
theorem namedB_none (p : Int → Bool) : namedB p [] = false := by unfold namedB; simp
def upI (r : Int) : Bool := decide (65 ≤ r) && decide (r ≤ 90)
def loI (r : Int) : Bool := decide (97 ≤ r) && decide (r ≤ 122)
def leI (r : Int) : Bool := upI r || loI r
theorem namedB_of (p : Int → Bool) (q : UInt8 → Bool) (l : List UInt8) (hq : ∀ c : UInt8, (p c.toNat && (letterB c || digitB c)) = (letterB c && q c)) : namedB p l = (nameB l && q (l.getD 0 0)) := by
  unfold namedB nameB
  cases l with
  | nil => simp
  | cons b t =>
    have h1 : okPTo p (b :: t) (b :: t).length = (okTo (b :: t) (b :: t).length && q b) := by
      unfold okPTo okTo
      rw [List.length_cons, List.range_succ_eq_map, List.all_cons, List.all_cons]
      have e0 : okP p 0 ((b :: t).getD 0 0) = (okAt 0 ((b :: t).getD 0 0) && q b) := by
        show okP p 0 b = (okAt 0 b && q b)
        unfold okP okAt
        have := hq b
        simp only [ne_eq, not_true_eq_false, decide_false, Bool.false_or, Bool.false_and, Bool.or_false]
        exact this
      have e1 : ((List.range t.length).map Nat.succ).all (fun i => okP p i ((b :: t).getD i 0)) = ((List.range t.length).map Nat.succ).all (fun i => okAt i ((b :: t).getD i 0)) := by
        rw [List.all_map, List.all_map]
        exact congrArg (fun f => (List.range t.length).all f) (funext fun i => by simp [okP, okAt])
      rw [e0, e1, Bool.and_assoc, Bool.and_assoc]
      congr 1
      exact Bool.and_comm _ _
    rw [h1]
    show _ = (_ && q b)
    cases okTo (b :: t) (b :: t).length <;> cases q b <;> simp
theorem namedB_up (l : List UInt8) : namedB upI l = classB l := by
  unfold classB
  rw [namedB_of upI (fun c => decide (c.toNat ≤ 90)) l (fun c => by
    unfold upI letterB digitB
    rw [Bool.eq_iff_iff]
    simp only [Bool.and_eq_true, Bool.or_eq_true, decide_eq_true_eq]
    omega)]
theorem namedB_lo (l : List UInt8) : namedB loI l = memberB l := by
  unfold memberB
  rw [namedB_of loI (fun c => decide (97 ≤ c.toNat)) l (fun c => by
    unfold loI letterB digitB
    rw [Bool.eq_iff_iff]
    simp only [Bool.and_eq_true, Bool.or_eq_true, decide_eq_true_eq]
    omega)]
theorem namedB_le (l : List UInt8) : namedB leI l = nameB l := by
  rw [namedB_of leI (fun _ => true) l (fun c => by
    unfold leI upI loI letterB digitB
    rw [Bool.eq_iff_iff]
    simp only [Bool.and_eq_true, Bool.or_eq_true, decide_eq_true_eq, and_true]
    omega), Bool.and_true]
/-- The rune at a place: the byte itself, or nothing below 128. -/
theorem rune_at (l : List UInt8) (k : Nat) (hk : k < l.length) (h : k < (S l).size) :
    ((l.getD k 0).toNat < 128 ∧ Utf8.decode (S l) k = ((l.getD k 0).toNat, 1)) ∨
    (128 ≤ (l.getD k 0).toNat ∧ 128 ≤ (Utf8.decode (S l) k).1 ∧ (Utf8.decode (S l) k).1 ≤ 2147483647 ∧ 1 ≤ (Utf8.decode (S l) k).2) := by
  have e := S_at l k hk h
  by_cases ha : (l.getD k 0).toNat < 128
  · exact .inl ⟨ha, by rw [decode_ascii (S l) k h (by rw [e]; exact ha), e]⟩
  · have := decode_high (S l) k h (by rw [e]; omega)
    exact .inr ⟨by omega, this.1, decode_le (S l) k, this.2⟩
theorem upper_any (r : Int) (w : World) : Calls Tryz.prog 127 #[.int .i32 r] w fun e w' => e = .returned (.bool (upI r)) ∧ w = w' := by
  unfold upI
  by_cases h1 : 65 ≤ r
  · rw [decide_eq_true h1, Bool.true_and]
    go_enter Tryz.func127, Tryz.ntmps127
    go_wp2
    go_ret
    exact ⟨rfl, rfl⟩
  · rw [decide_eq_false h1, Bool.false_and]
    have h2 : r < 65 := by omega
    go_enter Tryz.func127, Tryz.ntmps127
    go_wp2
    go_ret
    exact ⟨rfl, rfl⟩
theorem lower_any (r : Int) (w : World) : Calls Tryz.prog 129 #[.int .i32 r] w fun e w' => e = .returned (.bool (loI r)) ∧ w = w' := by
  unfold loI
  by_cases h1 : 97 ≤ r
  · rw [decide_eq_true h1, Bool.true_and]
    go_enter Tryz.func129, Tryz.ntmps129
    go_wp2
    go_ret
    exact ⟨rfl, rfl⟩
  · rw [decide_eq_false h1, Bool.false_and]
    have h2 : r < 97 := by omega
    go_enter Tryz.func129, Tryz.ntmps129
    go_wp2
    go_ret
    exact ⟨rfl, rfl⟩
end Go.Proofs.YtcoobdbfgiiejaaGreatDoor
