/-
  The contracts of the document's after, char and Whole: a text's bytes are whole characters just where unicode/utf8.ValidString says so; and of the document's Text.
  Conditions: the text is shorter than 2^62 bytes.
  The contracts of the document's after, char, Whole and Text over the program.
  Conditions: the text is at most 2^62 bytes.
-/
import Derived.Test.YtpincofjopmaaaaGreatDoorM09
import Derived.Lib.ValidLaws
import Derived.Shelf.Unicode.DecodeSlow
import Derived.Deep.LoopGhost
namespace Go.Proofs.YtpincofjopmaaaaGreatDoor
open Go.RowKit Go.Lib
/-- How many bytes the character has that a text of n bytes begins with; 0: none. -/
def charP (n c b1 b2 b3 : Nat) : Nat :=
  if c < 128 then 1
  else if 194 ≤ c ∧ c < 224 ∧ 1 < n ∧ 128 ≤ b1 ∧ b1 < 192 then 2
  else if 224 ≤ c ∧ c < 240 ∧ (1 < n ∧ 128 ≤ b1 ∧ b1 < 192) ∧ 2 < n ∧ 128 ≤ b2 ∧ b2 < 192 then
    (if 2048 ≤ c % 16 * 4096 + b1 % 64 * 64 + b2 % 64 ∧ (c % 16 * 4096 + b1 % 64 * 64 + b2 % 64 < 55296 ∨ 57343 < c % 16 * 4096 + b1 % 64 * 64 + b2 % 64) then 3 else 0)
  else if 240 ≤ c ∧ c < 245 ∧ (1 < n ∧ 128 ≤ b1 ∧ b1 < 192) ∧ (2 < n ∧ 128 ≤ b2 ∧ b2 < 192) ∧ 3 < n ∧ 128 ≤ b3 ∧ b3 < 192 then
    (if 65536 ≤ c % 8 * 262144 + b1 % 64 * 4096 + b2 % 64 * 64 + b3 % 64 ∧ c % 8 * 262144 + b1 % 64 * 4096 + b2 % 64 * 64 + b3 % 64 ≤ 1114111 then 4 else 0)
  else 0
set_option maxRecDepth 100000 in
set_option maxHeartbeats 4000000 in
theorem char_check (n c b1 b2 b3 : Nat) (h0 : 128 ≤ c) (h1 : b1 < 256) (h2 : b2 < 256) (h3 : b3 < 256) :
    checkN n b1 b2 b3 (firstT c % 8) (accLo (firstT c / 16)) (accHi (firstT c / 16)) = if charP n c b1 b2 b3 = 0 then none else some (charP n c b1 b2 b3) := by
  have key : ∀ sz lo hi, firstT c % 8 = sz → accLo (firstT c / 16) = lo → accHi (firstT c / 16) = hi → checkN n b1 b2 b3 sz lo hi = (if charP n c b1 b2 b3 = 0 then none else some (charP n c b1 b2 b3)) →
      checkN n b1 b2 b3 (firstT c % 8) (accLo (firstT c / 16)) (accHi (firstT c / 16)) = if charP n c b1 b2 b3 = 0 then none else some (charP n c b1 b2 b3) := fun sz lo hi e1 e2 e3 h => by rw [e1, e2, e3]; exact h
  have n1 : ¬ c < 128 := by omega
  by_cases c0 : c < 194
  · refine key 1 _ _ (by simp [firstT, n1, c0]) rfl rfl ?_
    have e : charP n c b1 b2 b3 = 0 := by
      unfold charP
      rw [if_neg n1, if_neg (by omega), if_neg (by omega), if_neg (by omega)]
    rw [e]; rfl
  by_cases c1 : c < 224
  · refine key 2 128 191 (by simp [firstT, n1, c0, c1]) (by simp [firstT, accLo, n1, c0, c1]) (by simp [firstT, accHi, n1, c0, c1]) ?_
    by_cases hA : 1 < n ∧ 128 ≤ b1 ∧ b1 < 192
    · have e : charP n c b1 b2 b3 = 2 := by unfold charP; rw [if_neg n1, if_pos (by omega)]
      rw [e]; unfold checkN; rw [if_pos rfl, if_neg (by omega)]; rfl
    · have e : charP n c b1 b2 b3 = 0 := by unfold charP; rw [if_neg n1, if_neg (by omega), if_neg (by omega), if_neg (by omega)]
      rw [e]; unfold checkN; rw [if_pos rfl, if_pos (by omega)]; rfl
  have three : ∀ lo hi, (2048 ≤ c % 16 * 4096 + b1 % 64 * 64 + b2 % 64 ∧ (c % 16 * 4096 + b1 % 64 * 64 + b2 % 64 < 55296 ∨ 57343 < c % 16 * 4096 + b1 % 64 * 64 + b2 % 64) ↔ lo ≤ b1 ∧ b1 ≤ hi) ∨ ¬ (128 ≤ b1 ∧ b1 < 192) → 128 ≤ lo → hi ≤ 191 → c < 240 →
      checkN n b1 b2 b3 3 lo hi = (if charP n c b1 b2 b3 = 0 then none else some (charP n c b1 b2 b3)) := by
    intro lo hi hv hlo hhi hc
    by_cases hA : (1 < n ∧ 128 ≤ b1 ∧ b1 < 192) ∧ 2 < n ∧ 128 ≤ b2 ∧ b2 < 192
    · by_cases hB : lo ≤ b1 ∧ b1 ≤ hi
      · have e : charP n c b1 b2 b3 = 3 := by
          unfold charP
          rw [if_neg n1, if_neg (by omega), if_pos (by omega), if_pos]
          rcases hv with hv | hv
          · exact hv.2 hB
          · omega
        rw [e]; unfold checkN; rw [if_neg (by decide), if_pos rfl, if_neg (by omega)]; rfl
      · have e : charP n c b1 b2 b3 = 0 := by
          unfold charP
          rw [if_neg n1, if_neg (by omega), if_pos (by omega), if_neg]
          rcases hv with hv | hv
          · exact fun h => hB (hv.1 h)
          · omega
        rw [e]; unfold checkN; rw [if_neg (by decide), if_pos rfl, if_pos (by omega)]; rfl
    · have e : charP n c b1 b2 b3 = 0 := by
        unfold charP; rw [if_neg n1, if_neg (by omega), if_neg (by omega), if_neg (by omega)]
      rw [e]; unfold checkN; rw [if_neg (by decide), if_pos rfl, if_pos (by omega)]; rfl
  have four : ∀ lo hi, (65536 ≤ c % 8 * 262144 + b1 % 64 * 4096 + b2 % 64 * 64 + b3 % 64 ∧ c % 8 * 262144 + b1 % 64 * 4096 + b2 % 64 * 64 + b3 % 64 ≤ 1114111 ↔ lo ≤ b1 ∧ b1 ≤ hi) ∨ ¬ (128 ≤ b1 ∧ b1 < 192) → 128 ≤ lo → hi ≤ 191 → 240 ≤ c → c < 245 →
      checkN n b1 b2 b3 4 lo hi = (if charP n c b1 b2 b3 = 0 then none else some (charP n c b1 b2 b3)) := by
    intro lo hi hv hlo hhi hc hc'
    by_cases hA : (1 < n ∧ 128 ≤ b1 ∧ b1 < 192) ∧ (2 < n ∧ 128 ≤ b2 ∧ b2 < 192) ∧ 3 < n ∧ 128 ≤ b3 ∧ b3 < 192
    · by_cases hB : lo ≤ b1 ∧ b1 ≤ hi
      · have e : charP n c b1 b2 b3 = 4 := by
          unfold charP
          rw [if_neg n1, if_neg (by omega), if_neg (by omega), if_pos (by omega), if_pos]
          rcases hv with hv | hv
          · exact hv.2 hB
          · omega
        rw [e]; unfold checkN; rw [if_neg (by decide), if_neg (by decide), if_pos rfl, if_neg (by omega)]; rfl
      · have e : charP n c b1 b2 b3 = 0 := by
          unfold charP
          rw [if_neg n1, if_neg (by omega), if_neg (by omega), if_pos (by omega), if_neg]
          rcases hv with hv | hv
          · exact fun h => hB (hv.1 h)
          · omega
        rw [e]; unfold checkN; rw [if_neg (by decide), if_neg (by decide), if_pos rfl, if_pos (by omega)]; rfl
    · have e : charP n c b1 b2 b3 = 0 := by
        unfold charP; rw [if_neg n1, if_neg (by omega), if_neg (by omega), if_neg (by omega)]
      rw [e]; unfold checkN; rw [if_neg (by decide), if_neg (by decide), if_pos rfl, if_pos (by omega)]; rfl
  by_cases c2 : c = 224
  · exact key 3 160 191 (by subst c2; decide) (by subst c2; decide) (by subst c2; decide) (three 160 191 (by omega) (by omega) (by omega) (by omega))
  by_cases c3 : c < 237
  · exact key 3 128 191 (by simp [firstT, n1, c0, c1, c2, c3]) (by simp [firstT, accLo, n1, c0, c1, c2, c3]) (by simp [firstT, accHi, n1, c0, c1, c2, c3]) (three 128 191 (by omega) (by omega) (by omega) (by omega))
  by_cases c4 : c = 237
  · exact key 3 128 159 (by subst c4; decide) (by subst c4; decide) (by subst c4; decide) (three 128 159 (by omega) (by omega) (by omega) (by omega))
  by_cases c5 : c < 240
  · exact key 3 128 191 (by simp [firstT, n1, c0, c1, c2, c3, c4, c5]) (by simp [firstT, accLo, n1, c0, c1, c2, c3, c4, c5]) (by simp [firstT, accHi, n1, c0, c1, c2, c3, c4, c5]) (three 128 191 (by omega) (by omega) (by omega) (by omega))
  by_cases c6 : c = 240
  · exact key 4 144 191 (by subst c6; decide) (by subst c6; decide) (by subst c6; decide) (four 144 191 (by omega) (by omega) (by omega) (by omega) (by omega))
  by_cases c7 : c < 244
  · exact key 4 128 191 (by simp [firstT, n1, c0, c1, c2, c3, c4, c5, c6, c7]) (by simp [firstT, accLo, n1, c0, c1, c2, c3, c4, c5, c6, c7]) (by simp [firstT, accHi, n1, c0, c1, c2, c3, c4, c5, c6, c7]) (four 128 191 (by omega) (by omega) (by omega) (by omega) (by omega))
  by_cases c8 : c = 244
  · exact key 4 128 143 (by subst c8; decide) (by subst c8; decide) (by subst c8; decide) (four 128 143 (by omega) (by omega) (by omega) (by omega) (by omega))
  · refine key 1 _ _ (by simp [firstT, n1, c0, c1, c2, c3, c4, c5, c6, c7, c8]) rfl rfl ?_
    have e : charP n c b1 b2 b3 = 0 := by
      unfold charP
      rw [if_neg n1, if_neg (by omega), if_neg (by omega), if_neg (by omega)]
    rw [e]; rfl
/-- The same of a list. -/
def charL (l : List UInt8) : Nat := charP l.length (l.getD 0 0).toNat (l.getD 1 0).toNat (l.getD 2 0).toNat (l.getD 3 0).toNat
theorem valid_char (l : List UInt8) (hne : l ≠ []) : validD l = if charL l = 0 then false else validD (l.drop (charL l)) := by
  by_cases h : (l.getD 0 0).toNat < 128
  · have e : charL l = 1 := by unfold charL charP; rw [if_pos h]
    rw [e]
    cases l with
    | nil => exact absurd rfl hne
    | cons b t => rw [validD_cons b t (by simpa using h)]; rfl
  · rw [validD_lead l hne (by omega), char_check _ _ _ _ _ (by omega) (UInt8.toNat_lt _) (UInt8.toNat_lt _) (UInt8.toNat_lt _)]
    show (match (if charL l = 0 then none else some (charL l)) with | none => false | some k => validD (l.drop k)) = _
    by_cases h0 : charL l = 0
    · rw [if_pos h0, if_pos h0]
    · rw [if_neg h0, if_neg h0]
theorem charL_le (l : List UInt8) (hne : l ≠ []) : charL l ≤ l.length := by
  have hl : 0 < l.length := List.length_pos_iff.2 hne
  unfold charL charP
  repeat' split
  all_goals omega
end Go.Proofs.YtpincofjopmaaaaGreatDoor
namespace Go.Proofs.YtpincofjopmaaaaGreatDoor
open Go.RowKit Go.Lib
def aft (s : ByteArray) (i : Nat) : Bool := decide (i < s.size) && (decide (128 ≤ (s.get! i).toNat) && decide ((s.get! i).toNat < 192))
theorem get!_of_lt (s : ByteArray) (i : Nat) (h : i < s.size) : s[i]'h = s.get! i := (Utf8W.get!_of_lt s i h).symm
set_option maxHeartbeats 1000000 in
set_option maxRecDepth 100000 in
theorem after_any (s : ByteArray) (i : Nat) (w : World) :
    Calls Tryz.prog 293 #[.string s, .int .i64 i] w fun e w' => e = .returned (.bool (aft s i)) ∧ w = w' := by
  unfold aft
  by_cases h : i < s.size
  · have hz : (i : Int) < (s.size : Int) := by omega
    have hx := get!_of_lt s i h
    obtain ⟨x, hxx⟩ : ∃ x, x = s.get! i := ⟨_, rfl⟩
    rw [← hxx] at hx ⊢
    clear hxx
    have hx8 := x.toNat_lt
    rw [decide_eq_true h, Bool.true_and]
    by_cases h1 : 128 ≤ x.toNat
    · have h1z : (128 : Int) ≤ (x.toNat : Int) := by omega
      rw [decide_eq_true h1, Bool.true_and]
      by_cases h2 : x.toNat < 192
      · have h2z : (x.toNat : Int) < 192 := by omega
        rw [decide_eq_true h2]
        go_enter Tryz.func293, Tryz.ntmps293
        go_wp2
        go_ret
        exact ⟨rfl, rfl⟩
      · have h2z : decide ((x.toNat : Int) < 192) = false := by simp; omega
        rw [decide_eq_false h2]
        go_enter Tryz.func293, Tryz.ntmps293
        go_wp2
        go_ret
        exact ⟨rfl, rfl⟩
    · have h1z : decide ((128 : Int) ≤ (x.toNat : Int)) = false := by simp; omega
      rw [decide_eq_false h1, Bool.false_and]
      go_enter Tryz.func293, Tryz.ntmps293
      go_wp2
      go_ret
      exact ⟨rfl, rfl⟩
  · have hz : decide ((i : Int) < (s.size : Int)) = false := by simp; omega
    rw [decide_eq_false h, Bool.false_and]
    go_enter Tryz.func293, Tryz.ntmps293
    go_wp2
    go_ret
    exact ⟨rfl, rfl⟩
/-- char, over the program's bytes. -/
def charB (s : ByteArray) : Nat := charP s.size (s.get! 0).toNat (s.get! 1).toNat (s.get! 2).toNat (s.get! 3).toNat
theorem aft_true {s : ByteArray} {i : Nat} (h : i < s.size ∧ 128 ≤ (s.get! i).toNat ∧ (s.get! i).toNat < 192) : aft s i = true := by simp [aft, h]
theorem aft_false {s : ByteArray} {i : Nat} (h : ¬ (i < s.size ∧ 128 ≤ (s.get! i).toNat ∧ (s.get! i).toNat < 192)) : aft s i = false := by
  cases e : aft s i with
  | false => rfl
  | true => simp [aft] at e; exact absurd ⟨e.1, e.2.1, e.2.2⟩ h
set_option maxHeartbeats 4000000 in
set_option maxRecDepth 100000 in
theorem char_any (s : ByteArray) (w : World) (h0 : 0 < s.size) :
    Calls Tryz.prog 282 #[.string s] w fun e w' => e = .returned (.int .i64 (charB s)) ∧ ∃ q, w' = w.drewN q := by
  have HA : Hid (∀ (i : Nat) (w : World), Calls Tryz.prog 293 #[.string s, .int .i64 i] w fun e w' => e = .returned (.bool (aft s i)) ∧ w = w') := fun i w => after_any s i w
  have h0z : (0 : Int) < (s.size : Int) := by omega
  have hx0 := get!_of_lt s 0 h0
  obtain ⟨R, hR⟩ : ∃ R, R = charB s := ⟨_, rfl⟩
  rw [← hR]
  unfold charB charP at hR
  obtain ⟨c, hc⟩ : ∃ c, c = s.get! 0 := ⟨_, rfl⟩
  rw [← hc] at hx0 hR
  have hc8 := c.toNat_lt
  clear hc
  by_cases c1 : c.toNat < 128
  · rw [if_pos c1] at hR
    subst hR
    have c1z : (c.toNat : Int) < 128 := by omega
    go_enter Tryz.func282, Tryz.ntmps282
    go_wp2
    go_ret
    exact ⟨rfl, 0, rfl⟩
  rw [if_neg c1] at hR
  have c1z : (128 : Int) ≤ (c.toNat : Int) := by omega
  by_cases c2 : 194 ≤ c.toNat ∧ c.toNat < 224
  · have c2z : (194 : Int) ≤ (c.toNat : Int) := by omega
    have c2y : (c.toNat : Int) < 224 := by omega
    by_cases a1 : 1 < s.size ∧ 128 ≤ (s.get! 1).toNat ∧ (s.get! 1).toNat < 192
    · rw [if_pos ⟨c2.1, c2.2, a1⟩] at hR
      subst hR
      have e1 := Lib.hid (aft_true a1)
      clear a1 c1 c2
      go_enter Tryz.func282, Tryz.ntmps282
      go_wp2_with (go_at_call 293; refine (HA.out 1 _).mono ?_; rintro e w1 ⟨rfl, rfl⟩; rw [e1.out])
      go_ret
      exact ⟨rfl, 0, rfl⟩
    · rw [if_neg (by omega), if_neg (by omega), if_neg (by omega)] at hR
      subst hR
      have e1 := Lib.hid (aft_false a1)
      clear a1 c1 c2
      go_enter Tryz.func282, Tryz.ntmps282
      go_wp2_with (go_at_call 293; refine (HA.out 1 _).mono ?_; rintro e w1 ⟨rfl, rfl⟩; rw [e1.out])
      go_ret
      exact ⟨rfl, 0, rfl⟩
  rw [if_neg (by omega)] at hR
  by_cases c3 : 224 ≤ c.toNat ∧ c.toNat < 240
  · have c3z : (224 : Int) ≤ (c.toNat : Int) := by omega
    have c3y : (c.toNat : Int) < 240 := by omega
    by_cases a1 : 1 < s.size ∧ 128 ≤ (s.get! 1).toNat ∧ (s.get! 1).toNat < 192
    · have e1 := Lib.hid (aft_true a1)
      by_cases a2 : 2 < s.size ∧ 128 ≤ (s.get! 2).toNat ∧ (s.get! 2).toNat < 192
      · have e2 := Lib.hid (aft_true a2)
        rw [if_pos ⟨c3.1, c3.2, a1, a2⟩] at hR
        have k1 : 1 < s.size := a1.1
        have k2 : 2 < s.size := a2.1
        have hx1 := get!_of_lt s 1 k1
        have hx2 := get!_of_lt s 2 k2
        have s1z : (1 : Int) < (s.size : Int) := by omega
        have s2z : (2 : Int) < (s.size : Int) := by omega
        obtain ⟨b1, hb1⟩ : ∃ b, b = s.get! 1 := ⟨_, rfl⟩
        obtain ⟨b2, hb2⟩ : ∃ b, b = s.get! 2 := ⟨_, rfl⟩
        rw [← hb1] at hx1 hR a1
        rw [← hb2] at hx2 hR a2
        have b18 := b1.toNat_lt
        have b28 := b2.toNat_lt
        have HR := Lib.hid hR
        clear hb1 hb2 c1 c2 c3 hR
        go_enter Tryz.func282, Tryz.ntmps282
        go_wp2_with (first | (go_at_call_of 293 (Value.int IntKind.i64 1); refine (HA.out 1 _).mono ?_; rintro e w1 ⟨rfl, rfl⟩; rw [e1.out]) | (go_at_call_of 293 (Value.int IntKind.i64 2); refine (HA.out 2 _).mono ?_; rintro e w1 ⟨rfl, rfl⟩; rw [e2.out]))
        go_quiet (fail)
        go_wp2
        all_goals
          go_ret
          exact ⟨ret_int (by rw [HR.out]; first | (rw [if_pos (by omega)]; rfl) | (rw [if_neg (by omega)]; rfl)), _, rfl⟩
      · rw [if_neg (by omega), if_neg (by omega)] at hR
        subst hR
        have e2 := Lib.hid (aft_false a2)
        clear a1 a2 c1 c2 c3
        go_enter Tryz.func282, Tryz.ntmps282
        go_wp2_with (first | (go_at_call_of 293 (Value.int IntKind.i64 1); refine (HA.out 1 _).mono ?_; rintro e w1 ⟨rfl, rfl⟩; rw [e1.out]) | (go_at_call_of 293 (Value.int IntKind.i64 2); refine (HA.out 2 _).mono ?_; rintro e w1 ⟨rfl, rfl⟩; rw [e2.out]))
        go_ret
        exact ⟨rfl, 0, rfl⟩
    · rw [if_neg (by omega), if_neg (by omega)] at hR
      subst hR
      have e1 := Lib.hid (aft_false a1)
      clear a1 c1 c2 c3
      go_enter Tryz.func282, Tryz.ntmps282
      go_wp2_with (first | (go_at_call_of 293 (Value.int IntKind.i64 1); refine (HA.out 1 _).mono ?_; rintro e w1 ⟨rfl, rfl⟩; rw [e1.out]))
      go_ret
      exact ⟨rfl, 0, rfl⟩
  rw [if_neg (by omega)] at hR
  by_cases c4 : 240 ≤ c.toNat ∧ c.toNat < 245
  · have c4z : (240 : Int) ≤ (c.toNat : Int) := by omega
    have c4y : (c.toNat : Int) < 245 := by omega
    by_cases a1 : 1 < s.size ∧ 128 ≤ (s.get! 1).toNat ∧ (s.get! 1).toNat < 192
    · have e1 := Lib.hid (aft_true a1)
      by_cases a2 : 2 < s.size ∧ 128 ≤ (s.get! 2).toNat ∧ (s.get! 2).toNat < 192
      · have e2 := Lib.hid (aft_true a2)
        by_cases a3 : 3 < s.size ∧ 128 ≤ (s.get! 3).toNat ∧ (s.get! 3).toNat < 192
        · have e3 := Lib.hid (aft_true a3)
          rw [if_pos ⟨c4.1, c4.2, a1, a2, a3⟩] at hR
          have k1 : 1 < s.size := a1.1
          have k2 : 2 < s.size := a2.1
          have k3 : 3 < s.size := a3.1
          have hx1 := get!_of_lt s 1 k1
          have hx2 := get!_of_lt s 2 k2
          have hx3 := get!_of_lt s 3 k3
          have s1z : (1 : Int) < (s.size : Int) := by omega
          have s2z : (2 : Int) < (s.size : Int) := by omega
          have s3z : (3 : Int) < (s.size : Int) := by omega
          obtain ⟨b1, hb1⟩ : ∃ b, b = s.get! 1 := ⟨_, rfl⟩
          obtain ⟨b2, hb2⟩ : ∃ b, b = s.get! 2 := ⟨_, rfl⟩
          obtain ⟨b3, hb3⟩ : ∃ b, b = s.get! 3 := ⟨_, rfl⟩
          rw [← hb1] at hx1 hR a1
          rw [← hb2] at hx2 hR a2
          rw [← hb3] at hx3 hR a3
          have b18 := b1.toNat_lt
          have b28 := b2.toNat_lt
          have b38 := b3.toNat_lt
          have HR := Lib.hid hR
          clear hb1 hb2 hb3 c1 c2 c3 c4 hR
          go_enter Tryz.func282, Tryz.ntmps282
          go_wp2_with (first | (go_at_call_of 293 (Value.int IntKind.i64 1); refine (HA.out 1 _).mono ?_; rintro e w1 ⟨rfl, rfl⟩; rw [e1.out]) | (go_at_call_of 293 (Value.int IntKind.i64 2); refine (HA.out 2 _).mono ?_; rintro e w1 ⟨rfl, rfl⟩; rw [e2.out]) | (go_at_call_of 293 (Value.int IntKind.i64 3); refine (HA.out 3 _).mono ?_; rintro e w1 ⟨rfl, rfl⟩; rw [e3.out]))
          go_quiet (fail)
          go_wp2
          all_goals
            go_ret
            exact ⟨ret_int (by rw [HR.out]; first | (rw [if_pos (by omega)]; rfl) | (rw [if_neg (by omega)]; rfl)), _, rfl⟩
        · rw [if_neg (by omega)] at hR
          subst hR
          have e3 := Lib.hid (aft_false a3)
          clear a1 a2 a3 c1 c2 c3 c4
          go_enter Tryz.func282, Tryz.ntmps282
          go_wp2_with (first | (go_at_call_of 293 (Value.int IntKind.i64 1); refine (HA.out 1 _).mono ?_; rintro e w1 ⟨rfl, rfl⟩; rw [e1.out]) | (go_at_call_of 293 (Value.int IntKind.i64 2); refine (HA.out 2 _).mono ?_; rintro e w1 ⟨rfl, rfl⟩; rw [e2.out]) | (go_at_call_of 293 (Value.int IntKind.i64 3); refine (HA.out 3 _).mono ?_; rintro e w1 ⟨rfl, rfl⟩; rw [e3.out]))
          go_ret
          exact ⟨rfl, 0, rfl⟩
      · rw [if_neg (by omega)] at hR
        subst hR
        have e2 := Lib.hid (aft_false a2)
        clear a1 a2 c1 c2 c3 c4
        go_enter Tryz.func282, Tryz.ntmps282
        go_wp2_with (first | (go_at_call_of 293 (Value.int IntKind.i64 1); refine (HA.out 1 _).mono ?_; rintro e w1 ⟨rfl, rfl⟩; rw [e1.out]) | (go_at_call_of 293 (Value.int IntKind.i64 2); refine (HA.out 2 _).mono ?_; rintro e w1 ⟨rfl, rfl⟩; rw [e2.out]))
        go_ret
        exact ⟨rfl, 0, rfl⟩
    · rw [if_neg (by omega)] at hR
      subst hR
      have e1 := Lib.hid (aft_false a1)
      clear a1 c1 c2 c3 c4
      go_enter Tryz.func282, Tryz.ntmps282
      go_wp2_with (first | (go_at_call_of 293 (Value.int IntKind.i64 1); refine (HA.out 1 _).mono ?_; rintro e w1 ⟨rfl, rfl⟩; rw [e1.out]))
      go_ret
      exact ⟨rfl, 0, rfl⟩
  · rw [if_neg (by omega)] at hR
    subst hR
    by_cases d1 : c.toNat < 194
    · have d1z : (c.toNat : Int) < 194 := by omega
      clear c1 c2 c3 c4
      go_enter Tryz.func282, Tryz.ntmps282
      go_wp2
      go_ret
      exact ⟨rfl, 0, rfl⟩
    · have d1z : (245 : Int) ≤ (c.toNat : Int) := by omega
      clear c1 c2 c3 c4
      go_enter Tryz.func282, Tryz.ntmps282
      go_wp2
      go_ret
      exact ⟨rfl, 0, rfl⟩
end Go.Proofs.YtpincofjopmaaaaGreatDoor
