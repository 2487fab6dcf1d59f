/-
  The contracts of package kind's depth, Right, Deep, Of, Elem and Parts.
  Conditions: the text has at most 2^40 bytes.
-/
import Derived.Test.YtcoobdbfgiiejaaGreatDoorKind
namespace Go.Proofs.YtcoobdbfgiiejaaGreatDoor
open Go.RowKit
/-- How deep, of a kind; 0 of another text. -/
def depN (l : List UInt8) : Nat := if rightB l = true then deepN l else 0
theorem depN_right {l : List UInt8} (h : rightB l = true) : depN l = deepN l := by unfold depN; rw [if_pos h]
theorem depN_not {l : List UInt8} (h : rightB l = false) : depN l = 0 := by unfold depN; rw [if_neg (by rw [h]; decide)]
theorem depN_le (l : List UInt8) : depN l ≤ 3 := by
  unfold depN
  split
  · rename_i h
    unfold rightB at h
    simp at h
    exact h.1
  · omega
/-- So many pairs of brackets are taken off. -/
def Off (l : List UInt8) (k : Nat) (r : List UInt8) : Prop := k ≤ 3 ∧ 2 * k ≤ l.length ∧ r = l.take (l.length - 2 * k) ∧ deepN l = deepN r + k
theorem off_zero (l : List UInt8) : Off l 0 l := ⟨by omega, by omega, by simp, by omega⟩
theorem off_next {l r : List UInt8} {k : Nat} (h : Off l k r) (hk : k < 3) (he : endsB r = true) : Off l (k + 1) (r.take (r.length - 2)) := by
  obtain ⟨_, h2, h3, h4⟩ := h
  have hr := endsB_two he
  have hl : r.length = l.length - 2 * k := by rw [h3, List.length_take]; omega
  refine ⟨by omega, by omega, ?_, by rw [h4, deepN_ends he]; omega⟩
  rw [hl, h3, List.take_take]
  congr 1
  omega
/-- Where no pair is left, or three were taken off, what is left decides. -/
theorem off_end {l r : List UInt8} {k : Nat} (h : Off l k r) (hs : endsB r = false ∨ k = 3) : rightB l = (plainB r || classB r) ∧ (rightB l = true → depN l = k) := by
  obtain ⟨h1, h2, h3, h4⟩ := h
  cases he : endsB r with
  | false =>
    have hd : deepN l = k := by rw [h4, deepN_not he]; omega
    have hb : baseL l = r := by unfold baseL; rw [hd, h3]
    refine ⟨by unfold rightB; rw [hb, hd, decide_eq_true h1, Bool.true_and]; rfl, fun hr => by rw [depN_right hr, hd]⟩
  | true =>
    have hk : k = 3 := by rcases hs with hs | hs; (rw [he] at hs; cases hs); exact hs
    have hd : ¬ deepN l ≤ 3 := by rw [h4, deepN_ends he]; omega
    have hr : rightB l = false := by unfold rightB; rw [decide_eq_false hd, Bool.false_and]
    have hn : (plainB r || classB r) = false := by
      cases hb : (plainB r || classB r) with
      | false => rfl
      | true =>
        have := nameB_ends (baseB_name (l := r) hb)
        rw [he] at this
        cases this
    rw [hr, hn]
    exact ⟨rfl, fun h => by cases h⟩
theorem off_len {l r : List UInt8} {k : Nat} (h : Off l k r) : r.length ≤ l.length := by rw [h.2.2.1, List.length_take]; omega
/-- What depth answers. -/
def Depth (l : List UInt8) (w : World) (e : Ending) (w' : World) : Prop := e = .returned (.tuple #[.int .i64 (depN l), .bool (rightB l)]) ∧ Below w.heap.size w w'
theorem kret_pair {a b : Nat} {c d : Bool} (h : a = b) (h2 : c = d) : Ending.returned (.tuple #[.int .i64 (a : Int), .bool c]) = .returned (.tuple #[.int .i64 (b : Int), .bool d]) := by rw [h, h2]
set_option maxHeartbeats 1000000 in
set_option maxRecDepth 100000 in
theorem depth_any (l : List UInt8) (w : World) (hlim : l.length ≤ 1099511627776) :
    Calls Tryz.prog 128 #[.string (S l)] w (Depth l w) := by
  go_enter Tryz.func128, Tryz.ntmps128
  go_wp2
  go_loop [0, 4] (fun v0 v4 => ∃ (k : Nat) (r : List UInt8), v0 = .string (S r) ∧ v4 = .int .i64 k ∧ Off l k r) (fun _ v4 => 3 - (intOf v4).toNat)
  case atStart => exact ⟨0, l, rfl, rfl, off_zero l⟩
  case round =>
    obtain ⟨k, r, rfl, rfl, hoff⟩ := hrel
    have hk3 := hoff.1
    have hrl := off_len hoff
    have HOFF := Lib.hid hoff
    clear hoff
    have HS := Lib.hid (fun w => hassuf_any r w (by omega))
    have HP := Lib.hid (plain_any r)
    have HC := Lib.hid (fun w => class_any r w (by omega))
    cases he : endsB r with
    | true =>
      by_cases hlt : k < 3
      · have HT := Lib.hid (fun w => trimsuf_yes r w (by omega) he)
        have HN := Lib.hid (off_next HOFF.out hlt he)
        rw [he] at HS
        have hlt2 : (k : Int) < 3 := by omega
        clear he
        go_wp2_with fail
        refine (HS.out _).mono ?_
        rintro e w' ⟨rfl, rfl⟩
        go_wp2_with fail
        refine (HT.out _).mono ?_
        rintro e w' ⟨rfl, rfl⟩
        go_wp2
        go_round
        case rel => exact ⟨k + 1, _, rfl, by go_num, HN.out⟩
        case measure => simp [intOf]; omega
      · obtain rfl : k = 3 := by omega
        obtain ⟨hr1, hr2⟩ := off_end HOFF.out (.inr rfl)
        have hn : (plainB r || classB r) = false := by
          cases hb : (plainB r || classB r) with
          | false => rfl
          | true =>
            have := nameB_ends (baseB_name (l := r) hb)
            rw [he] at this
            cases this
        rw [hn] at hr1
        rw [Bool.or_eq_false_iff] at hn
        obtain ⟨hn1, hn2⟩ := hn
        rw [hn1] at HP
        rw [hn2] at HC
        have HR1 := Lib.hid hr1
        clear he hr1 hr2 hn1 hn2 HS HOFF
        go_wp2_with fail
        refine (HP.out _).mono ?_
        rintro e w' ⟨rfl, rfl⟩
        go_wp2_with fail
        refine (HC.out _).mono ?_
        rintro e w' ⟨rfl, hb⟩
        go_wp2
        go_ret2
        exact ⟨kret_pair (a := 0) (depN_not HR1.out).symm HR1.out.symm, hb⟩
    | false =>
      obtain ⟨hr1, hr2⟩ := off_end HOFF.out (.inl he)
      rw [he] at HS
      have HR1 := Lib.hid hr1
      have HR2 := Lib.hid hr2
      clear he hr1 hr2
      by_cases hlt : k < 3
      · have hlt2 : (k : Int) < 3 := by omega
        cases hp : plainB r with
        | true =>
          rw [hp] at HP
          rw [hp, Bool.true_or] at HR1
          clear hp
          go_wp2_with fail
          refine (HS.out _).mono ?_
          rintro e w' ⟨rfl, rfl⟩
          go_wp2_with fail
          refine (HP.out _).mono ?_
          rintro e w' ⟨rfl, rfl⟩
          go_wp2
          go_ret2
          exact ⟨kret_pair (HR2.out HR1.out).symm HR1.out.symm, Below.refl _ _⟩
        | false =>
          rw [hp] at HP
          rw [hp, Bool.false_or] at HR1
          clear hp
          cases hc : classB r with
          | true =>
            rw [hc] at HC HR1
            clear hc
            go_wp2_with fail
            refine (HS.out _).mono ?_
            rintro e w' ⟨rfl, rfl⟩
            go_wp2_with fail
            refine (HP.out _).mono ?_
            rintro e w' ⟨rfl, rfl⟩
            go_wp2_with fail
            refine (HC.out _).mono ?_
            rintro e w' ⟨rfl, hb⟩
            go_wp2
            go_ret2
            exact ⟨kret_pair (HR2.out HR1.out).symm HR1.out.symm, hb⟩
          | false =>
            rw [hc] at HC HR1
            clear hc
            go_wp2_with fail
            refine (HS.out _).mono ?_
            rintro e w' ⟨rfl, rfl⟩
            go_wp2_with fail
            refine (HP.out _).mono ?_
            rintro e w' ⟨rfl, rfl⟩
            go_wp2_with fail
            refine (HC.out _).mono ?_
            rintro e w' ⟨rfl, hb⟩
            go_wp2
            go_ret2
            exact ⟨kret_pair (a := 0) (depN_not HR1.out).symm HR1.out.symm, hb⟩
      · obtain rfl : k = 3 := by omega
        clear HS
        cases hp : plainB r with
        | true =>
          rw [hp] at HP
          rw [hp, Bool.true_or] at HR1
          clear hp
          go_wp2_with fail
          refine (HP.out _).mono ?_
          rintro e w' ⟨rfl, rfl⟩
          go_wp2
          go_ret2
          exact ⟨kret_pair (HR2.out HR1.out).symm HR1.out.symm, Below.refl _ _⟩
        | false =>
          rw [hp] at HP
          rw [hp, Bool.false_or] at HR1
          clear hp
          cases hc : classB r with
          | true =>
            rw [hc] at HC HR1
            clear hc
            go_wp2_with fail
            refine (HP.out _).mono ?_
            rintro e w' ⟨rfl, rfl⟩
            go_wp2_with fail
            refine (HC.out _).mono ?_
            rintro e w' ⟨rfl, hb⟩
            go_wp2
            go_ret2
            exact ⟨kret_pair (HR2.out HR1.out).symm HR1.out.symm, hb⟩
          | false =>
            rw [hc] at HC HR1
            clear hc
            go_wp2_with fail
            refine (HP.out _).mono ?_
            rintro e w' ⟨rfl, rfl⟩
            go_wp2_with fail
            refine (HC.out _).mono ?_
            rintro e w' ⟨rfl, hb⟩
            go_wp2
            go_ret2
            exact ⟨kret_pair (a := 0) (depN_not HR1.out).symm HR1.out.symm, hb⟩
/-- A number is answered; of what was there nothing has changed. -/
def SaidN (n : Nat) (w : World) (e : Ending) (w' : World) : Prop := e = .returned (.int .i64 n) ∧ Below w.heap.size w w'
theorem deep_any (l : List UInt8) (w : World) (hlim : l.length ≤ 1099511627776) :
    Calls Tryz.prog 107 #[.string (S l)] w (SaidN (depN l) w) := by
  go_enter Tryz.func107, Tryz.ntmps107
  go_wp2_with fail
  refine (depth_any l w hlim).mono ?_
  rintro e w' ⟨rfl, hb⟩
  go_wp2
  go_ret
  exact ⟨rfl, hb⟩
/-- A text is answered; of what was there nothing has changed. -/
def SaidS (l : List UInt8) (w : World) (e : Ending) (w' : World) : Prop := e = .returned (.string (S l)) ∧ Below w.heap.size w w'
/-- What Of answers. -/
def SaidOf (l : List UInt8) (w : World) (e : Ending) (w' : World) : Prop :=
  (if rightB l = true ∧ deepN l ≤ 2 then e = .returned (.tuple #[.string (S (ofL l)), .int .i64 0]) else e = .returned (.tuple #[.string ⟨#[]⟩, .int .i64 30])) ∧ Below w.heap.size w w'
set_option maxHeartbeats 400000 in
theorem of_any (l : List UInt8) (w : World) (hlim : l.length ≤ 1099511627776) :
    Calls Tryz.prog 108 #[.string (S l)] w (SaidOf l w) := by
  have HD := Lib.hid (depth_any l w hlim)
  unfold Depth at HD
  cases hr : rightB l with
  | false =>
    have HF := Lib.hid (show ¬ (rightB l = true ∧ deepN l ≤ 2) from fun h => by rw [hr] at h; cases h.1)
    rw [hr] at HD
    clear hr
    go_enter Tryz.func108, Tryz.ntmps108
    go_wp2_with fail
    refine HD.out.mono ?_
    rintro e w' ⟨rfl, hb⟩
    go_wp2
    go_ret2
    exact ⟨by rw [if_neg HF.out]; rfl, hb⟩
  | true =>
    have hd := depN_right hr
    rw [hr] at HD
    by_cases h2 : deepN l ≤ 2
    · have HF := Lib.hid (show rightB l = true ∧ deepN l ≤ 2 from ⟨hr, h2⟩)
      have hne : ((depN l : Int) == 3) = false := by rw [beq_eq_false_iff_ne]; omega
      have HA : Hid (S l ++ ⟨#[91, 93]⟩ = S (ofL l)) := S_append l [91, 93]
      have hsum : (S l).size + 2 ≤ 9223372036854775807 := by rw [S_size]; omega
      clear hr hd h2
      generalize depN l = N at *
      go_enter Tryz.func108, Tryz.ntmps108
      go_wp2_with fail
      refine HD.out.mono ?_
      rintro e w' ⟨rfl, hb⟩
      go_wp2
      go_ret2
      exact ⟨by rw [if_pos HF.out]; rfl, hb⟩
    · have HF := Lib.hid (show ¬ (rightB l = true ∧ deepN l ≤ 2) from fun h => h2 h.2)
      have hne : depN l = 3 := by have := depN_le l; omega
      rw [hne] at HD
      clear hr hd h2 hne
      go_enter Tryz.func108, Tryz.ntmps108
      go_wp2_with fail
      refine HD.out.mono ?_
      rintro e w' ⟨rfl, hb⟩
      go_wp2
      go_ret2
      exact ⟨by rw [if_neg HF.out]; rfl, hb⟩
end Go.Proofs.YtcoobdbfgiiejaaGreatDoor
