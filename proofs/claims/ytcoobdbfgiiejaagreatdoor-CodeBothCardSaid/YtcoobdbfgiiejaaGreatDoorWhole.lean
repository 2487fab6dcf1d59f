/-
  The contracts of the document's after, char and Whole: a text's bytes are whole characters just where unicode/utf8.ValidString says so; and of the document's Text.
  Conditions: the text is shorter than 2^62 bytes.
-/
import Derived.Test.YtcoobdbfgiiejaaGreatDoorReader
import Derived.Lib.ValidLaws
namespace Go.Proofs.YtcoobdbfgiiejaaGreatDoor
open Go.RowKit Go.Lib
/-- How many bytes the character has that a text of n bytes begins with; 0: none. -/
def charP (n c b1 b2 b3 : Nat) : Nat :=
  if c < 128 then 1
  else if 194 ≤ c ∧ c < 224 ∧ 1 < n ∧ 128 ≤ b1 ∧ b1 < 192 then 2
  else if 224 ≤ c ∧ c < 240 ∧ (1 < n ∧ 128 ≤ b1 ∧ b1 < 192) ∧ 2 < n ∧ 128 ≤ b2 ∧ b2 < 192 then
    (if 2048 ≤ c % 16 * 4096 + b1 % 64 * 64 + b2 % 64 ∧ (c % 16 * 4096 + b1 % 64 * 64 + b2 % 64 < 55296 ∨ 57343 < c % 16 * 4096 + b1 % 64 * 64 + b2 % 64) then 3 else 0)
  else if 240 ≤ c ∧ c < 245 ∧ (1 < n ∧ 128 ≤ b1 ∧ b1 < 192) ∧ (2 < n ∧ 128 ≤ b2 ∧ b2 < 192) ∧ 3 < n ∧ 128 ≤ b3 ∧ b3 < 192 then
    (if 65536 ≤ c % 8 * 262144 + b1 % 64 * 4096 + b2 % 64 * 64 + b3 % 64 ∧ c % 8 * 262144 + b1 % 64 * 4096 + b2 % 64 * 64 + b3 % 64 ≤ 1114111 then 4 else 0)
  else 0
set_option maxRecDepth 100000 in
set_option maxHeartbeats 4000000 in
theorem char_check (n c b1 b2 b3 : Nat) (h0 : 128 ≤ c) (h1 : b1 < 256) (h2 : b2 < 256) (h3 : b3 < 256) :
    checkN n b1 b2 b3 (firstT c % 8) (accLo (firstT c / 16)) (accHi (firstT c / 16)) = if charP n c b1 b2 b3 = 0 then none else some (charP n c b1 b2 b3) := by
  have key : ∀ sz lo hi, firstT c % 8 = sz → accLo (firstT c / 16) = lo → accHi (firstT c / 16) = hi → checkN n b1 b2 b3 sz lo hi = (if charP n c b1 b2 b3 = 0 then none else some (charP n c b1 b2 b3)) →
      checkN n b1 b2 b3 (firstT c % 8) (accLo (firstT c / 16)) (accHi (firstT c / 16)) = if charP n c b1 b2 b3 = 0 then none else some (charP n c b1 b2 b3) := fun sz lo hi e1 e2 e3 h => by rw [e1, e2, e3]; exact h
  have n1 : ¬ c < 128 := by omega
  by_cases c0 : c < 194
  · refine key 1 _ _ (by simp [firstT, n1, c0]) rfl rfl ?_
    have e : charP n c b1 b2 b3 = 0 := by
      unfold charP
      rw [if_neg n1, if_neg (by omega), if_neg (by omega), if_neg (by omega)]
    rw [e]; rfl
  by_cases c1 : c < 224
  · refine key 2 128 191 (by simp [firstT, n1, c0, c1]) (by simp [firstT, accLo, n1, c0, c1]) (by simp [firstT, accHi, n1, c0, c1]) ?_
    by_cases hA : 1 < n ∧ 128 ≤ b1 ∧ b1 < 192
    · have e : charP n c b1 b2 b3 = 2 := by unfold charP; rw [if_neg n1, if_pos (by omega)]
      rw [e]; unfold checkN; rw [if_pos rfl, if_neg (by omega)]; rfl
    · have e : charP n c b1 b2 b3 = 0 := by unfold charP; rw [if_neg n1, if_neg (by omega), if_neg (by omega), if_neg (by omega)]
      rw [e]; unfold checkN; rw [if_pos rfl, if_pos (by omega)]; rfl
  have three : ∀ lo hi, (2048 ≤ c % 16 * 4096 + b1 % 64 * 64 + b2 % 64 ∧ (c % 16 * 4096 + b1 % 64 * 64 + b2 % 64 < 55296 ∨ 57343 < c % 16 * 4096 + b1 % 64 * 64 + b2 % 64) ↔ lo ≤ b1 ∧ b1 ≤ hi) ∨ ¬ (128 ≤ b1 ∧ b1 < 192) → 128 ≤ lo → hi ≤ 191 → c < 240 →
      checkN n b1 b2 b3 3 lo hi = (if charP n c b1 b2 b3 = 0 then none else some (charP n c b1 b2 b3)) := by
    intro lo hi hv hlo hhi hc
    by_cases hA : (1 < n ∧ 128 ≤ b1 ∧ b1 < 192) ∧ 2 < n ∧ 128 ≤ b2 ∧ b2 < 192
    · by_cases hB : lo ≤ b1 ∧ b1 ≤ hi
      · have e : charP n c b1 b2 b3 = 3 := by
          unfold charP
          rw [if_neg n1, if_neg (by omega), if_pos (by omega), if_pos]
          rcases hv with hv | hv
          · exact hv.2 hB
          · omega
        rw [e]; unfold checkN; rw [if_neg (by decide), if_pos rfl, if_neg (by omega)]; rfl
      · have e : charP n c b1 b2 b3 = 0 := by
          unfold charP
          rw [if_neg n1, if_neg (by omega), if_pos (by omega), if_neg]
          rcases hv with hv | hv
          · exact fun h => hB (hv.1 h)
          · omega
        rw [e]; unfold checkN; rw [if_neg (by decide), if_pos rfl, if_pos (by omega)]; rfl
    · have e : charP n c b1 b2 b3 = 0 := by
        unfold charP; rw [if_neg n1, if_neg (by omega), if_neg (by omega), if_neg (by omega)]
      rw [e]; unfold checkN; rw [if_neg (by decide), if_pos rfl, if_pos (by omega)]; rfl
  have four : ∀ lo hi, (65536 ≤ c % 8 * 262144 + b1 % 64 * 4096 + b2 % 64 * 64 + b3 % 64 ∧ c % 8 * 262144 + b1 % 64 * 4096 + b2 % 64 * 64 + b3 % 64 ≤ 1114111 ↔ lo ≤ b1 ∧ b1 ≤ hi) ∨ ¬ (128 ≤ b1 ∧ b1 < 192) → 128 ≤ lo → hi ≤ 191 → 240 ≤ c → c < 245 →
      checkN n b1 b2 b3 4 lo hi = (if charP n c b1 b2 b3 = 0 then none else some (charP n c b1 b2 b3)) := by
    intro lo hi hv hlo hhi hc hc'
    by_cases hA : (1 < n ∧ 128 ≤ b1 ∧ b1 < 192) ∧ (2 < n ∧ 128 ≤ b2 ∧ b2 < 192) ∧ 3 < n ∧ 128 ≤ b3 ∧ b3 < 192
    · by_cases hB : lo ≤ b1 ∧ b1 ≤ hi
      · have e : charP n c b1 b2 b3 = 4 := by
          unfold charP
          rw [if_neg n1, if_neg (by omega), if_neg (by omega), if_pos (by omega), if_pos]
          rcases hv with hv | hv
          · exact hv.2 hB
          · omega
        rw [e]; unfold checkN; rw [if_neg (by decide), if_neg (by decide), if_pos rfl, if_neg (by omega)]; rfl
      · have e : charP n c b1 b2 b3 = 0 := by
          unfold charP
          rw [if_neg n1, if_neg (by omega), if_neg (by omega), if_pos (by omega), if_neg]
          rcases hv with hv | hv
          · exact fun h => hB (hv.1 h)
          · omega
        rw [e]; unfold checkN; rw [if_neg (by decide), if_neg (by decide), if_pos rfl, if_pos (by omega)]; rfl
    · have e : charP n c b1 b2 b3 = 0 := by
        unfold charP; rw [if_neg n1, if_neg (by omega), if_neg (by omega), if_neg (by omega)]
      rw [e]; unfold checkN; rw [if_neg (by decide), if_neg (by decide), if_pos rfl, if_pos (by omega)]; rfl
  by_cases c2 : c = 224
  · exact key 3 160 191 (by subst c2; decide) (by subst c2; decide) (by subst c2; decide) (three 160 191 (by omega) (by omega) (by omega) (by omega))
  by_cases c3 : c < 237
  · exact key 3 128 191 (by simp [firstT, n1, c0, c1, c2, c3]) (by simp [firstT, accLo, n1, c0, c1, c2, c3]) (by simp [firstT, accHi, n1, c0, c1, c2, c3]) (three 128 191 (by omega) (by omega) (by omega) (by omega))
  by_cases c4 : c = 237
  · exact key 3 128 159 (by subst c4; decide) (by subst c4; decide) (by subst c4; decide) (three 128 159 (by omega) (by omega) (by omega) (by omega))
  by_cases c5 : c < 240
  · exact key 3 128 191 (by simp [firstT, n1, c0, c1, c2, c3, c4, c5]) (by simp [firstT, accLo, n1, c0, c1, c2, c3, c4, c5]) (by simp [firstT, accHi, n1, c0, c1, c2, c3, c4, c5]) (three 128 191 (by omega) (by omega) (by omega) (by omega))
  by_cases c6 : c = 240
  · exact key 4 144 191 (by subst c6; decide) (by subst c6; decide) (by subst c6; decide) (four 144 191 (by omega) (by omega) (by omega) (by omega) (by omega))
  by_cases c7 : c < 244
  · exact key 4 128 191 (by simp [firstT, n1, c0, c1, c2, c3, c4, c5, c6, c7]) (by simp [firstT, accLo, n1, c0, c1, c2, c3, c4, c5, c6, c7]) (by simp [firstT, accHi, n1, c0, c1, c2, c3, c4, c5, c6, c7]) (four 128 191 (by omega) (by omega) (by omega) (by omega) (by omega))
  by_cases c8 : c = 244
  · exact key 4 128 143 (by subst c8; decide) (by subst c8; decide) (by subst c8; decide) (four 128 143 (by omega) (by omega) (by omega) (by omega) (by omega))
  · refine key 1 _ _ (by simp [firstT, n1, c0, c1, c2, c3, c4, c5, c6, c7, c8]) rfl rfl ?_
    have e : charP n c b1 b2 b3 = 0 := by
      unfold charP
      rw [if_neg n1, if_neg (by omega), if_neg (by omega), if_neg (by omega)]
    rw [e]; rfl
/-- The same of a list. -/
def charL (l : List UInt8) : Nat := charP l.length (l.getD 0 0).toNat (l.getD 1 0).toNat (l.getD 2 0).toNat (l.getD 3 0).toNat
theorem valid_char (l : List UInt8) (hne : l ≠ []) : validD l = if charL l = 0 then false else validD (l.drop (charL l)) := by
  by_cases h : (l.getD 0 0).toNat < 128
  · have e : charL l = 1 := by unfold charL charP; rw [if_pos h]
    rw [e]
    cases l with
    | nil => exact absurd rfl hne
    | cons b t => rw [validD_cons b t (by simpa using h)]; rfl
  · rw [validD_lead l hne (by omega), char_check _ _ _ _ _ (by omega) (UInt8.toNat_lt _) (UInt8.toNat_lt _) (UInt8.toNat_lt _)]
    show (match (if charL l = 0 then none else some (charL l)) with | none => false | some k => validD (l.drop k)) = _
    by_cases h0 : charL l = 0
    · rw [if_pos h0, if_pos h0]
    · rw [if_neg h0, if_neg h0]
theorem charL_le (l : List UInt8) (hne : l ≠ []) : charL l ≤ l.length := by
  have hl : 0 < l.length := List.length_pos_iff.2 hne
  unfold charL charP
  repeat' split
  all_goals omega
end Go.Proofs.YtcoobdbfgiiejaaGreatDoor
