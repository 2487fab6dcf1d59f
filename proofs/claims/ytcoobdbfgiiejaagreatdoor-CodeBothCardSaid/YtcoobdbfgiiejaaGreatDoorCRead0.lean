/-
  Plain mathematics of layer 4's text: decimal numbers are read back; where a line's operator ends.
  Conditions: none.
-/
import Derived.Test.YtcoobdbfgiiejaaGreatDoorCRefS
import Derived.Test.YtcoobdbfgiiejaaGreatDoorCC
import Derived.Test.YtcoobdbfgiiejaaGreatDoorCRefT2
import Derived.Lib.ParseIntBCases
namespace Go.Proofs.YtcoobdbfgiiejaaGreatDoor
open Go.RowKit
theorem pu_cons (M acc : Nat) (c : UInt8) (r : List UInt8) : Lib.parseUintM M acc (c :: r) = if 48 ≤ c.toNat ∧ c.toNat ≤ 57 then (if 1844674407370955162 ≤ acc then .range else if M < acc * 10 + (c.toNat - 48) then .range else Lib.parseUintM M (acc * 10 + (c.toNat - 48)) r) else Lib.NumEnd.syntax := by rw [Lib.parseUintM]
theorem pu_append (M : Nat) (b : List UInt8) : ∀ (a : List UInt8) (acc v : Nat), Lib.parseUintM M acc a = .ok v → Lib.parseUintM M acc (a ++ b) = Lib.parseUintM M v b
  | [], acc, v, h => by
    simp only [Lib.parseUintM, Lib.NumEnd.ok.injEq] at h
    rw [List.nil_append, h]
  | c :: a, acc, v, h => by
    rw [pu_cons] at h
    rw [List.cons_append, pu_cons]
    by_cases h1 : 48 ≤ c.toNat ∧ c.toNat ≤ 57
    · rw [if_pos h1] at h ⊢
      by_cases h2 : 1844674407370955162 ≤ acc
      · rw [if_pos h2] at h; cases h
      · rw [if_neg h2] at h ⊢
        by_cases h3 : M < acc * 10 + (c.toNat - 48)
        · rw [if_pos h3] at h; cases h
        · rw [if_neg h3] at h ⊢
          exact pu_append M b a _ v h
    · rw [if_neg h1] at h; cases h
theorem dg_toNat (d : Nat) (h : d < 10) : (UInt8.ofNat (48 + d)).toNat = 48 + d := by simp; omega
theorem pu_digit (M acc d : Nat) (h : d < 10) (ha : ¬ 1844674407370955162 ≤ acc) (hM : ¬ M < acc * 10 + d) : Lib.parseUintM M acc [UInt8.ofNat (48 + d)] = .ok (acc * 10 + d) := by
  rw [pu_cons, dg_toNat d h, if_pos (by omega), if_neg ha, show 48 + d - 48 = d by omega, if_neg hM]
  rfl
theorem pu_dec (M : Nat) : ∀ (n u : Nat), u ≤ n → u ≤ M → u ≤ 9223372036854775808 → Lib.parseUintM M 0 (Lib.decDigits u) = .ok u := by
  intro n
  induction n with
  | zero =>
    intro u hu hM _
    obtain rfl : u = 0 := by omega
    rw [dec_small (by decide), pu_digit M 0 0 (by decide) (by decide) (by omega)]
  | succ n ih =>
    intro u hu hM hl
    by_cases h : u < 10
    · rw [dec_small h, pu_digit M 0 u h (by decide) (by omega)]
      simp
    · rw [dec_big h, pu_append M _ _ 0 (u / 10) (ih (u / 10) (by omega) (by omega) (by omega)), pu_digit M (u / 10) (u % 10) (by omega) (by omega) (by omega)]
      congr 1
      omega
theorem dec_head (u : Nat) : ∃ d r, d < 10 ∧ Lib.decDigits u = UInt8.ofNat (48 + d) :: r := by
  have key : ∀ n u : Nat, u ≤ n → ∃ d r, d < 10 ∧ Lib.decDigits u = UInt8.ofNat (48 + d) :: r := by
    intro n
    induction n with
    | zero =>
      intro u hu
      exact ⟨u, [], by omega, dec_small (by omega)⟩
    | succ n ih =>
      intro u hu
      by_cases h : u < 10
      · exact ⟨u, [], h, dec_small h⟩
      · obtain ⟨d, r, h1, h2⟩ := ih (u / 10) (by omega)
        exact ⟨d, r ++ [UInt8.ofNat (48 + u % 10)], h1, by rw [dec_big h, h2]; rfl⟩
  exact key u u (Nat.le_refl _)
theorem parse_itoa (n : Int) (h0 : -9223372036854775808 ≤ n) (h1 : n ≤ 9223372036854775807) : Lib.parseIntB 64 (Lib.itoa n) = .ok n := by
  have hB : ∀ u : Nat, u ≤ 9223372036854775808 → Lib.parseUintB 64 (Lib.decDigits u) = .ok u := fun u hu => by
    obtain ⟨d, r, _, hd⟩ := dec_head u
    unfold Lib.parseUintB
    rw [if_neg (by rw [hd]; simp)]
    exact pu_dec _ u u (Nat.le_refl _) (by omega) hu
  unfold Lib.itoa
  by_cases hn : n < 0
  · rw [if_pos hn, Lib.parseIntB_minus, hB _ (by omega)]
    show (if 9223372036854775808 < n.natAbs then Lib.NumEnd.range else Lib.NumEnd.ok (-(n.natAbs : Int))) = _
    rw [if_neg (by omega)]
    congr 1
    omega
  · rw [if_neg hn]
    obtain ⟨d, r, hd10, hd⟩ := dec_head n.toNat
    have hpl := Lib.parseIntB_plain 64 (UInt8.ofNat (48 + d)) r (by rw [dg_toNat d hd10]; omega) (by rw [dg_toNat d hd10]; omega)
    rw [← hd] at hpl
    rw [hpl, hB _ (by omega)]
    show (if 9223372036854775808 ≤ n.toNat then Lib.NumEnd.range else Lib.NumEnd.ok (n.toNat : Int)) = _
    rw [if_neg (by omega)]
    congr 1
    omega
/-- Where the first blank stands. -/
def spAt (l : List UInt8) : Nat := l.findIdx (fun c => c == 32)
theorem sp_here (a r : List UInt8) (h : ∀ c ∈ a, c ≠ 32) : spAt (a ++ 32 :: r) = a.length := by
  unfold spAt
  induction a with
  | nil => simp [List.findIdx_cons]
  | cons x a ih =>
    have hx : (x == 32) = false := beq_eq_false_iff_ne.2 (h x (by simp))
    rw [List.cons_append, List.findIdx_cons, hx, cond_false, ih (fun c hc => h c (by simp [hc])), List.length_cons]
theorem sp_none (a : List UInt8) (h : ∀ c ∈ a, c ≠ 32) : spAt a = a.length := by
  unfold spAt
  induction a with
  | nil => rfl
  | cons x a ih =>
    have hx : (x == 32) = false := beq_eq_false_iff_ne.2 (h x (by simp))
    rw [List.findIdx_cons, hx, cond_false, ih (fun c hc => h c (by simp [hc])), List.length_cons]
theorem name_nosp : ∀ k : Fin 42, ∀ c ∈ nameAt k.val, c ≠ 32 := by decide +kernel
/-- What is ahead of the first blank, and what is behind it. -/
def headL (t : List UInt8) : List UInt8 := t.take (spAt t)
def restL (t : List UInt8) : List UInt8 := t.drop (spAt t + 1)
/-- A line of an instruction that may be, without its line feed, cut at its first blank. -/
theorem line_cut {y : Ins} (h : y.e = 0) : headL (nameAt (idx y.op) ++ argText (hasAt (idx y.op)) y.n y.s) = y.op ∧ restL (nameAt (idx y.op) ++ argText (hasAt (idx y.op)) y.n y.s) = (if hasAt (idx y.op) = 1 then Lib.itoa y.n else if 2 ≤ hasAt (idx y.op) then y.s else []) := by
  obtain ⟨hi, hnm, _, _⟩ := ins_fine h
  have hno := name_nosp ⟨idx y.op, hi⟩
  simp only at hno
  rw [hnm] at hno ⊢
  unfold headL restL argText
  by_cases h1 : hasAt (idx y.op) = 1
  · rw [if_pos h1, if_pos h1, sp_here _ _ hno]
    refine ⟨by simp, ?_⟩
    rw [List.drop_append, List.drop_of_length_le (by omega), show y.op.length + 1 - y.op.length = 1 by omega]
    simp
  · rw [if_neg h1, if_neg h1]
    by_cases h2 : 2 ≤ hasAt (idx y.op)
    · rw [if_pos h2, if_pos h2, sp_here _ _ hno]
      refine ⟨by simp, ?_⟩
      rw [List.drop_append, List.drop_of_length_le (by omega), show y.op.length + 1 - y.op.length = 1 by omega]
      simp
    · rw [if_neg h2, if_neg h2, List.append_nil, sp_none _ hno]
      refine ⟨by simp, ?_⟩
      rw [List.drop_of_length_le (by omega)]
end Go.Proofs.YtcoobdbfgiiejaaGreatDoor
