/-
  The contract of the document's Num: the number that bytes begin with, what is behind it, and an error, as the reader's own rules have it.
  Conditions: the text is at most 2^62 bytes.
-/
import Derived.Test.YtcoobdbfgiiejaaGreatDoorRefWhole
import Derived.Test.YtcoobdbfgiiejaaGreatDoorGet
import Derived.Test.YtcoobdbfgiiejaaGreatDoorRound
namespace Go.Proofs.YtcoobdbfgiiejaaGreatDoor
open Go.RowKit
/-- Seven bits a byte, the lowest first. -/
def leVal : List UInt8 → Nat
  | [] => 0
  | c :: t => c.toNat % 128 + 128 * leVal t
theorem lead (s : List UInt8) : ∀ (k i acc : Nat), (∀ j c, j < k → s[j]? = some c → 128 ≤ c.toNat) → k ≤ s.length → i + k ≤ 9 → numFrom i acc s = numFrom (i + k) (acc + 128 ^ i * leVal (s.take k)) (s.drop k) := by
  induction s with
  | nil =>
    intro k i acc _ hk _
    obtain rfl : k = 0 := (by simpa using hk)
    simp [leVal]
  | cons c t ih =>
    intro k i acc h hk hi
    cases k with
    | zero => simp [leVal]
    | succ k =>
      have hc := h 0 c (by omega) rfl
      rw [numFrom_more (by omega) (by omega), ih k (i + 1) _ (fun j d hj hd => h (j + 1) d (by omega) (by simpa using hd)) (by simpa using hk) (by omega)]
      rw [show i + 1 + k = i + (k + 1) from by omega]
      simp only [List.take_succ_cons, List.drop_succ_cons, leVal]
      congr 1
      rw [Nat.pow_succ, Nat.mul_add, Nat.add_assoc, Nat.mul_comm (c.toNat % 128) (128 ^ i), Nat.mul_assoc]
theorem leVal_snoc (l : List UInt8) (c : UInt8) : leVal (l ++ [c]) = leVal l + c.toNat % 128 * 128 ^ l.length := by
  induction l with
  | nil => simp [leVal]
  | cons d t ih =>
    simp only [List.cons_append, leVal, ih, List.length_cons, Nat.pow_succ]
    rw [Nat.mul_add, Nat.add_assoc]
    congr 2
    rw [← Nat.mul_assoc, Nat.mul_comm 128, Nat.mul_assoc, Nat.mul_comm 128]
/-- The three ends of the first walk. -/
theorem num_short (s : List UInt8) (k : Nat) (h : ∀ j c, j < k → s[j]? = some c → 128 ≤ c.toNat) (hk : k = s.length) (h9 : k ≤ 9) : numFrom 0 0 s = (10, 0, k) := by
  rw [lead s k 0 0 h (by omega) (by omega), hk, List.drop_length]
  simp [numFrom]
theorem num_end (s : List UInt8) (k : Nat) (c : UInt8) (h : ∀ j c, j < k → s[j]? = some c → 128 ≤ c.toNat) (h9 : k ≤ 9) (hc : s[k]? = some c) : numFrom 0 0 s = if (0 < k ∧ c.toNat = 0) ∨ (k = 9 ∧ 1 < c.toNat) then (11, 0, k + 1) else if c.toNat < 128 then (0, leVal (s.take (k + 1)), k + 1) else numFrom (k + 1) (leVal (s.take (k + 1))) (s.drop (k + 1)) := by
  have hkl : k < s.length := (List.getElem?_eq_some_iff.1 hc).1
  have hce : s[k] = c := (List.getElem?_eq_some_iff.1 hc).2
  have ht : leVal (s.take (k + 1)) = leVal (s.take k) + c.toNat % 128 * 128 ^ k := by
    rw [List.take_succ_eq_append_getElem hkl, leVal_snoc, hce, List.length_take, Nat.min_eq_left (by omega)]
  rw [lead s k 0 0 h (by omega) (by omega), List.drop_eq_getElem_cons hkl, hce, Nat.zero_add, Nat.zero_add, Nat.pow_zero, Nat.one_mul, ht]
  by_cases h1 : (0 < k ∧ c.toNat = 0) ∨ (k = 9 ∧ 1 < c.toNat)
  · rw [if_pos h1, numFrom_bad h1]
  · rw [if_neg h1]
    by_cases h2 : c.toNat < 128
    · rw [if_pos h2, numFrom_done h1 h2]
    · rw [if_neg h2, numFrom_more h1 h2]
theorem leVal_drop (l : List UInt8) : leVal (l.drop 1) ≤ leVal l := by
  cases l with
  | nil => simp [leVal]
  | cons c t => simp only [List.drop_succ_cons, List.drop_zero, leVal]; omega
theorem leVal_drops (l : List UInt8) (k : Nat) : leVal (l.drop k) ≤ leVal l := by
  induction k with
  | zero => simp
  | succ k ih =>
    have := leVal_drop (l.drop k)
    rw [List.drop_drop] at this
    omega
/-- What Num answers. -/
def NumRef (s : List UInt8) (w : World) (e : Ending) (w' : World) : Prop :=
  e = .returned (.tuple #[.int .u64 (numFrom 0 0 s).2.1, .string (S (if (numFrom 0 0 s).1 = 0 then s.drop (numFrom 0 0 s).2.2 else s)), .int .i64 (numFrom 0 0 s).1]) ∧ ∃ q, w' = w.drewN q
set_option maxHeartbeats 8000000 in
set_option maxRecDepth 100000 in
theorem refnum_any (s : List UInt8) (w : World) (hs : s.length ≤ 4611686018427387904) : Calls Tryz.prog 39 #[.string (S s)] w (NumRef s w) := by
  have hsz : ((S s).size : Int) = (s.length : Int) := by rw [S_size]
  have HB : Hid (∀ (k : Nat) (h : k < (S s).size), ∃ c, (S s)[k]'h = c ∧ s[k]? = some c) := fun k h => ⟨_, rfl, by
    have hk : k < s.length := by rw [S_size] at h; exact h
    rw [List.getElem?_eq_getElem hk]
    rfl⟩
  go_enter Tryz.func39, Tryz.ntmps39
  go_wp2
  go_loop [5] (fun vi => ∃ k : Nat, vi = .int .i64 k ∧ k ≤ s.length ∧ k ≤ 10 ∧ (∀ j c, j < k → s[j]? = some c → 128 ≤ c.toNat)) (fun vi => 10 - (intOf vi).toNat)
  case atStart => exact ⟨0, rfl, Nat.zero_le _, by omega, fun j c h => absurd h (Nat.not_lt_zero j)⟩
  case round =>
    obtain ⟨k, rfl, hk, hk10, hlead⟩ := hrel
    have HL := Lib.hid hlead
    clear hlead
    by_cases hkl : k < s.length
    · have hklz : (k : Int) < (s.length : Int) := by omega
      obtain ⟨c, hc1, hc2⟩ := HB.out k (by rw [S_size]; exact hkl)
      have HC2 := Lib.hid hc2
      have hc8 := c.toNat_lt
      clear hc2
      by_cases h10 : k < 10
      · have h10z : (k : Int) < 10 := by omega
        by_cases h128 : 128 ≤ c.toNat
        · have h128z : (128 : Int) ≤ (c.toNat : Int) := by omega
          go_wp2
          go_round
          case rel => exact ⟨k + 1, by go_num, by omega, by omega, fun j d hj hd => by
            rcases Nat.lt_or_ge j k with h | h
            · exact HL.out j d h hd
            · obtain rfl : j = k := by omega
              rw [HC2.out] at hd; cases hd; exact h128⟩
          case measure => simp [intOf]; omega
        · have h128z : decide ((128 : Int) ≤ (c.toNat : Int)) = false := by simp; omega
          have hend := num_end s k c HL.out (by omega) HC2.out
          have hne : ((k : Int) == (s.length : Int)) = false := beq_eq_false_iff_ne.2 (by omega)
          have hn10 : ((k : Int) == 10) = false := beq_eq_false_iff_ne.2 (by omega)
          by_cases hb0 : 0 < k ∧ c.toNat = 0
          · rw [if_pos (.inl hb0)] at hend
            have HE := Lib.hid hend
            obtain ⟨hb1, hb2⟩ := hb0
            have hb1z : (0 : Int) < (k : Int) := by omega
            have hb2b : ((c.toNat : Int) == 0) = true := beq_iff_eq.2 (by omega)
            clear hend hb2
            by_cases h9 : k = 9
            · subst h9
              have hb3 : decide ((1 : Int) < (c.toNat : Int)) = false := by rw [beq_iff_eq] at hb2b; simp; omega
              go_wp2
              go_ret3
              exact ⟨by rw [HE.out]; rfl, 0, rfl⟩
            · have h9b : ((k : Int) == 9) = false := beq_eq_false_iff_ne.2 (by omega)
              go_wp2
              go_ret3
              exact ⟨by rw [HE.out]; rfl, 0, rfl⟩
          by_cases hb9 : k = 9 ∧ 1 < c.toNat
          · rw [if_pos (.inr hb9)] at hend
            have HE := Lib.hid hend
            obtain ⟨rfl, hb2⟩ := hb9
            have hb2z : (1 : Int) < (c.toNat : Int) := by omega
            clear hend
            go_wp2
            go_ret3
            exact ⟨by rw [HE.out]; rfl, 0, rfl⟩
          rw [if_neg (by omega), if_pos (by omega)] at hend
          have HE := Lib.hid hend
          clear hend
          have h3 : (k = 9 ∧ c.toNat = 1) ∨ (k ≠ 9 ∧ 0 < k ∧ c.toNat ≠ 0) ∨ k = 0 := by omega
          rcases h3 with ⟨h9, hc⟩ | ⟨h9, h0, hc⟩ | h0
          · have h9b : ((k : Int) == 9) = true := beq_iff_eq.2 (by omega)
            have hl9 : (9 : Int) < (s.length : Int) := by omega
            obtain ⟨c', hc1', hc2'⟩ := HB.out 9 (by rw [S_size]; omega)
            have hcc : c' = c := by have h1 := HC2.out; rw [h9] at h1; rw [h1] at hc2'; exact (Option.some.inj hc2').symm
            subst hcc
            have hca : decide ((1 : Int) < (c'.toNat : Int)) = false := by simp; omega
            have hcb : ((c'.toNat : Int) == 0) = false := beq_eq_false_iff_ne.2 (by omega)
            have hkp : (0 : Int) < (k : Int) := by omega
            have H9 := Lib.hid h9
            clear h9 hc hc2'
            go_wp2_with fail
            go_loop [6, 7] (fun va vi => ∃ j : Nat, j ≤ k + 1 ∧ vi = .int .i64 ((j : Int) - 1) ∧ va = .int .u64 (leVal ((s.take (k + 1)).drop j) : Nat)) (fun _ vi => ((intOf vi) + 1).toNat)
            case atStart => exact ⟨k + 1, Nat.le_refl _, by go_num, by rw [List.drop_of_length_le (by rw [List.length_take]; omega)]; rfl⟩
            case round =>
              obtain ⟨j, hj, rfl, rfl⟩ := hrel
              by_cases hj0 : 0 < j
              · obtain ⟨m, rfl⟩ : ∃ m, j = m + 1 := ⟨j - 1, by omega⟩
                obtain ⟨d, hd1, hd2⟩ := HB.out m (by rw [S_size]; omega)
                have hd8 := d.toNat_lt
                have hml : m < (s.take (k + 1)).length := by rw [List.length_take]; omega
                have hst : leVal ((s.take (k + 1)).drop m) = d.toNat % 128 + 128 * leVal ((s.take (k + 1)).drop (m + 1)) := by
                  rw [List.drop_eq_getElem_cons hml]
                  have : (s.take (k + 1))[m] = d := by
                    have h1 : (s.take (k + 1))[m]? = some d := by rw [List.getElem?_take, if_pos (by omega)]; exact hd2
                    exact (List.getElem?_eq_some_iff.1 h1).2
                  rw [this]
                  rfl
                have hbd := leVal_drops (s.take (k + 1)) m
                have hbt := num_lt HE.out
                obtain ⟨V, hV⟩ : ∃ V, V = leVal ((s.take (k + 1)).drop (m + 1)) := ⟨_, rfl⟩
                rw [← hV] at hst ⊢
                have hVb : 128 * V + d.toNat % 128 < 18446744073709551616 := by omega
                have hmz : ((((m + 1 : Nat) : Int) - 1)) = (m : Int) := by omega
                rw [hmz]
                have hmk : (m : Int) < (s.length : Int) := by omega
                have HST := Lib.hid hst
                clear hst hd2 hml hbd hbt hV hmz
                go_wp2
                go_round
                case rel => exact ⟨m, by omega, by go_num, by rw [HST.out]; go_num⟩
                case measure => simp [intOf]
              · obtain rfl : j = 0 := by omega
                rw [List.drop_zero]
                have hbt := num_lt HE.out
                obtain ⟨V, hV⟩ : ∃ V, V = leVal (s.take (k + 1)) := ⟨_, rfl⟩
                rw [← hV] at HE hbt ⊢
                have hk1 : (k : Int) + 1 ≤ (s.length : Int) := by omega
                clear hV
                go_wp2
                go_quiet (fail)
                go_wp2
                go_ret3
                exact ⟨by rw [HE.out, S_drop]; rfl, _, rfl⟩
          · have h9b : ((k : Int) == 9) = false := beq_eq_false_iff_ne.2 (by omega)
            have hcb : ((c.toNat : Int) == 0) = false := beq_eq_false_iff_ne.2 (by omega)
            have hkp : (0 : Int) < (k : Int) := by omega
            clear h9 hc hb9 hb0
            go_wp2_with fail
            go_loop [6, 7] (fun va vi => ∃ j : Nat, j ≤ k + 1 ∧ vi = .int .i64 ((j : Int) - 1) ∧ va = .int .u64 (leVal ((s.take (k + 1)).drop j) : Nat)) (fun _ vi => ((intOf vi) + 1).toNat)
            case atStart => exact ⟨k + 1, Nat.le_refl _, by go_num, by rw [List.drop_of_length_le (by rw [List.length_take]; omega)]; rfl⟩
            case round =>
              obtain ⟨j, hj, rfl, rfl⟩ := hrel
              by_cases hj0 : 0 < j
              · obtain ⟨m, rfl⟩ : ∃ m, j = m + 1 := ⟨j - 1, by omega⟩
                obtain ⟨d, hd1, hd2⟩ := HB.out m (by rw [S_size]; omega)
                have hd8 := d.toNat_lt
                have hml : m < (s.take (k + 1)).length := by rw [List.length_take]; omega
                have hst : leVal ((s.take (k + 1)).drop m) = d.toNat % 128 + 128 * leVal ((s.take (k + 1)).drop (m + 1)) := by
                  rw [List.drop_eq_getElem_cons hml]
                  have : (s.take (k + 1))[m] = d := by
                    have h1 : (s.take (k + 1))[m]? = some d := by rw [List.getElem?_take, if_pos (by omega)]; exact hd2
                    exact (List.getElem?_eq_some_iff.1 h1).2
                  rw [this]
                  rfl
                have hbd := leVal_drops (s.take (k + 1)) m
                have hbt := num_lt HE.out
                obtain ⟨V, hV⟩ : ∃ V, V = leVal ((s.take (k + 1)).drop (m + 1)) := ⟨_, rfl⟩
                rw [← hV] at hst ⊢
                have hVb : 128 * V + d.toNat % 128 < 18446744073709551616 := by omega
                have hmz : ((((m + 1 : Nat) : Int) - 1)) = (m : Int) := by omega
                rw [hmz]
                have hmk : (m : Int) < (s.length : Int) := by omega
                have HST := Lib.hid hst
                clear hst hd2 hml hbd hbt hV hmz
                go_wp2
                go_round
                case rel => exact ⟨m, by omega, by go_num, by rw [HST.out]; go_num⟩
                case measure => simp [intOf]
              · obtain rfl : j = 0 := by omega
                rw [List.drop_zero]
                have hbt := num_lt HE.out
                obtain ⟨V, hV⟩ : ∃ V, V = leVal (s.take (k + 1)) := ⟨_, rfl⟩
                rw [← hV] at HE hbt ⊢
                have hk1 : (k : Int) + 1 ≤ (s.length : Int) := by omega
                clear hV
                go_wp2
                go_quiet (fail)
                go_wp2
                go_ret3
                exact ⟨by rw [HE.out, S_drop]; rfl, _, rfl⟩
          · have h9b : ((k : Int) == 9) = false := beq_eq_false_iff_ne.2 (by omega)
            have hkp : decide ((0 : Int) < (k : Int)) = false := by simp; omega
            have hkq : decide (0 < k) = false := by simp; omega
            have hkr : ¬ 0 < k := by omega
            have H0 := Lib.hid h0
            clear h0 hb9 hb0
            go_wp2_with fail
            go_loop [6, 7] (fun va vi => ∃ j : Nat, j ≤ k + 1 ∧ vi = .int .i64 ((j : Int) - 1) ∧ va = .int .u64 (leVal ((s.take (k + 1)).drop j) : Nat)) (fun _ vi => ((intOf vi) + 1).toNat)
            case atStart => exact ⟨k + 1, Nat.le_refl _, by go_num, by rw [List.drop_of_length_le (by rw [List.length_take]; omega)]; rfl⟩
            case round =>
              obtain ⟨j, hj, rfl, rfl⟩ := hrel
              by_cases hj0 : 0 < j
              · obtain ⟨m, rfl⟩ : ∃ m, j = m + 1 := ⟨j - 1, by omega⟩
                obtain ⟨d, hd1, hd2⟩ := HB.out m (by rw [S_size]; omega)
                have hd8 := d.toNat_lt
                have hml : m < (s.take (k + 1)).length := by rw [List.length_take]; omega
                have hst : leVal ((s.take (k + 1)).drop m) = d.toNat % 128 + 128 * leVal ((s.take (k + 1)).drop (m + 1)) := by
                  rw [List.drop_eq_getElem_cons hml]
                  have : (s.take (k + 1))[m] = d := by
                    have h1 : (s.take (k + 1))[m]? = some d := by rw [List.getElem?_take, if_pos (by omega)]; exact hd2
                    exact (List.getElem?_eq_some_iff.1 h1).2
                  rw [this]
                  rfl
                have hbd := leVal_drops (s.take (k + 1)) m
                have hbt := num_lt HE.out
                obtain ⟨V, hV⟩ : ∃ V, V = leVal ((s.take (k + 1)).drop (m + 1)) := ⟨_, rfl⟩
                rw [← hV] at hst ⊢
                have hVb : 128 * V + d.toNat % 128 < 18446744073709551616 := by omega
                have hmz : ((((m + 1 : Nat) : Int) - 1)) = (m : Int) := by omega
                rw [hmz]
                have hmk : (m : Int) < (s.length : Int) := by omega
                have HST := Lib.hid hst
                clear hst hd2 hml hbd hbt hV hmz
                go_wp2
                go_round
                case rel => exact ⟨m, by omega, by go_num, by rw [HST.out]; go_num⟩
                case measure => simp [intOf]
              · obtain rfl : j = 0 := by omega
                rw [List.drop_zero]
                have hbt := num_lt HE.out
                obtain ⟨V, hV⟩ : ∃ V, V = leVal (s.take (k + 1)) := ⟨_, rfl⟩
                rw [← hV] at HE hbt ⊢
                have hk1 : (k : Int) + 1 ≤ (s.length : Int) := by omega
                clear hV
                go_wp2
                go_quiet (fail)
                go_wp2
                go_ret3
                exact ⟨by rw [HE.out, S_drop]; rfl, _, rfl⟩
      · obtain rfl : k = 10 := by omega
        obtain ⟨c9, hd1, hd2⟩ := HB.out 9 (by rw [S_size]; omega)
        have h128 := HL.out 9 c9 (by omega) hd2
        have hend := num_end s 9 c9 (fun j d hj hd => HL.out j d (by omega) hd) (by omega) hd2
        rw [if_pos (.inr ⟨rfl, by omega⟩)] at hend
        have HE := Lib.hid hend
        have hne : ((10 : Int) == (s.length : Int)) = false := beq_eq_false_iff_ne.2 (by omega)
        clear hend hd2
        go_wp2
        go_ret3
        exact ⟨by rw [HE.out]; rfl, 0, rfl⟩
    · have hke : k = s.length := by omega
      have hklz : decide ((k : Int) < (s.length : Int)) = false := by simp; omega
      have hne : ((k : Int) == (s.length : Int)) = true := beq_iff_eq.2 (by omega)
      by_cases h10 : k < 10
      · have h10z : (k : Int) < 10 := by omega
        have HE := Lib.hid (num_short s k HL.out hke (by omega))
        have HKE := Lib.hid hke
        clear hke
        go_wp2
        go_ret3
        exact ⟨by rw [HE.out]; rfl, 0, rfl⟩
      · obtain ⟨c9, hd1, hd2⟩ := HB.out 9 (by rw [S_size]; omega)
        have h128 := HL.out 9 c9 (by omega) hd2
        have hend := num_end s 9 c9 (fun j d hj hd => HL.out j d (by omega) hd) (by omega) hd2
        rw [if_pos (.inr ⟨rfl, by omega⟩)] at hend
        have HE := Lib.hid hend
        have h10z : decide ((k : Int) < 10) = false := by simp; omega
        have h10b : ((k : Int) == 10) = true := beq_iff_eq.2 (by omega)
        have HKE := Lib.hid hke
        clear hend hd2 hke
        go_wp2
        go_ret3
        exact ⟨by rw [HE.out]; rfl, 0, rfl⟩
end Go.Proofs.YtcoobdbfgiiejaaGreatDoor
