/-
  The contracts of the document's after, char, Whole and Text over the program.
  Conditions: the text is at most 2^62 bytes.
-/
import Derived.Test.YtpincofjopmaaaaGreatDoorM12
import Derived.Shelf.Unicode.DecodeSlow
import Derived.Deep.LoopGhost
namespace Go.Proofs.YtpincofjopmaaaaGreatDoor
open Go.RowKit Go.Lib
def aft (s : ByteArray) (i : Nat) : Bool := decide (i < s.size) && (decide (128 ≤ (s.get! i).toNat) && decide ((s.get! i).toNat < 192))
theorem get!_of_lt (s : ByteArray) (i : Nat) (h : i < s.size) : s[i]'h = s.get! i := (Utf8W.get!_of_lt s i h).symm
set_option maxHeartbeats 1000000 in
set_option maxRecDepth 100000 in
theorem after_any (s : ByteArray) (i : Nat) (w : World) :
    Calls Tryz.prog 293 #[.string s, .int .i64 i] w fun e w' => e = .returned (.bool (aft s i)) ∧ w = w' := by
  unfold aft
  by_cases h : i < s.size
  · have hz : (i : Int) < (s.size : Int) := by omega
    have hx := get!_of_lt s i h
    obtain ⟨x, hxx⟩ : ∃ x, x = s.get! i := ⟨_, rfl⟩
    rw [← hxx] at hx ⊢
    clear hxx
    have hx8 := x.toNat_lt
    rw [decide_eq_true h, Bool.true_and]
    by_cases h1 : 128 ≤ x.toNat
    · have h1z : (128 : Int) ≤ (x.toNat : Int) := by omega
      rw [decide_eq_true h1, Bool.true_and]
      by_cases h2 : x.toNat < 192
      · have h2z : (x.toNat : Int) < 192 := by omega
        rw [decide_eq_true h2]
        go_enter Tryz.func293, Tryz.ntmps293
        go_wp2
        go_ret
        exact ⟨rfl, rfl⟩
      · have h2z : decide ((x.toNat : Int) < 192) = false := by simp; omega
        rw [decide_eq_false h2]
        go_enter Tryz.func293, Tryz.ntmps293
        go_wp2
        go_ret
        exact ⟨rfl, rfl⟩
    · have h1z : decide ((128 : Int) ≤ (x.toNat : Int)) = false := by simp; omega
      rw [decide_eq_false h1, Bool.false_and]
      go_enter Tryz.func293, Tryz.ntmps293
      go_wp2
      go_ret
      exact ⟨rfl, rfl⟩
  · have hz : decide ((i : Int) < (s.size : Int)) = false := by simp; omega
    rw [decide_eq_false h, Bool.false_and]
    go_enter Tryz.func293, Tryz.ntmps293
    go_wp2
    go_ret
    exact ⟨rfl, rfl⟩
/-- char, over the program's bytes. -/
def charB (s : ByteArray) : Nat := charP s.size (s.get! 0).toNat (s.get! 1).toNat (s.get! 2).toNat (s.get! 3).toNat
theorem aft_true {s : ByteArray} {i : Nat} (h : i < s.size ∧ 128 ≤ (s.get! i).toNat ∧ (s.get! i).toNat < 192) : aft s i = true := by simp [aft, h]
theorem aft_false {s : ByteArray} {i : Nat} (h : ¬ (i < s.size ∧ 128 ≤ (s.get! i).toNat ∧ (s.get! i).toNat < 192)) : aft s i = false := by
  cases e : aft s i with
  | false => rfl
  | true => simp [aft] at e; exact absurd ⟨e.1, e.2.1, e.2.2⟩ h
set_option maxHeartbeats 4000000 in
set_option maxRecDepth 100000 in
theorem char_any (s : ByteArray) (w : World) (h0 : 0 < s.size) :
    Calls Tryz.prog 282 #[.string s] w fun e w' => e = .returned (.int .i64 (charB s)) ∧ ∃ q, w' = w.drewN q := by
  have HA : Hid (∀ (i : Nat) (w : World), Calls Tryz.prog 293 #[.string s, .int .i64 i] w fun e w' => e = .returned (.bool (aft s i)) ∧ w = w') := fun i w => after_any s i w
  have h0z : (0 : Int) < (s.size : Int) := by omega
  have hx0 := get!_of_lt s 0 h0
  obtain ⟨R, hR⟩ : ∃ R, R = charB s := ⟨_, rfl⟩
  rw [← hR]
  unfold charB charP at hR
  obtain ⟨c, hc⟩ : ∃ c, c = s.get! 0 := ⟨_, rfl⟩
  rw [← hc] at hx0 hR
  have hc8 := c.toNat_lt
  clear hc
  by_cases c1 : c.toNat < 128
  · rw [if_pos c1] at hR
    subst hR
    have c1z : (c.toNat : Int) < 128 := by omega
    go_enter Tryz.func282, Tryz.ntmps282
    go_wp2
    go_ret
    exact ⟨rfl, 0, rfl⟩
  rw [if_neg c1] at hR
  have c1z : (128 : Int) ≤ (c.toNat : Int) := by omega
  by_cases c2 : 194 ≤ c.toNat ∧ c.toNat < 224
  · have c2z : (194 : Int) ≤ (c.toNat : Int) := by omega
    have c2y : (c.toNat : Int) < 224 := by omega
    by_cases a1 : 1 < s.size ∧ 128 ≤ (s.get! 1).toNat ∧ (s.get! 1).toNat < 192
    · rw [if_pos ⟨c2.1, c2.2, a1⟩] at hR
      subst hR
      have e1 := Lib.hid (aft_true a1)
      clear a1 c1 c2
      go_enter Tryz.func282, Tryz.ntmps282
      go_wp2_with (go_at_call 293; refine (HA.out 1 _).mono ?_; rintro e w1 ⟨rfl, rfl⟩; rw [e1.out])
      go_ret
      exact ⟨rfl, 0, rfl⟩
    · rw [if_neg (by omega), if_neg (by omega), if_neg (by omega)] at hR
      subst hR
      have e1 := Lib.hid (aft_false a1)
      clear a1 c1 c2
      go_enter Tryz.func282, Tryz.ntmps282
      go_wp2_with (go_at_call 293; refine (HA.out 1 _).mono ?_; rintro e w1 ⟨rfl, rfl⟩; rw [e1.out])
      go_ret
      exact ⟨rfl, 0, rfl⟩
  rw [if_neg (by omega)] at hR
  by_cases c3 : 224 ≤ c.toNat ∧ c.toNat < 240
  · have c3z : (224 : Int) ≤ (c.toNat : Int) := by omega
    have c3y : (c.toNat : Int) < 240 := by omega
    by_cases a1 : 1 < s.size ∧ 128 ≤ (s.get! 1).toNat ∧ (s.get! 1).toNat < 192
    · have e1 := Lib.hid (aft_true a1)
      by_cases a2 : 2 < s.size ∧ 128 ≤ (s.get! 2).toNat ∧ (s.get! 2).toNat < 192
      · have e2 := Lib.hid (aft_true a2)
        rw [if_pos ⟨c3.1, c3.2, a1, a2⟩] at hR
        have k1 : 1 < s.size := a1.1
        have k2 : 2 < s.size := a2.1
        have hx1 := get!_of_lt s 1 k1
        have hx2 := get!_of_lt s 2 k2
        have s1z : (1 : Int) < (s.size : Int) := by omega
        have s2z : (2 : Int) < (s.size : Int) := by omega
        obtain ⟨b1, hb1⟩ : ∃ b, b = s.get! 1 := ⟨_, rfl⟩
        obtain ⟨b2, hb2⟩ : ∃ b, b = s.get! 2 := ⟨_, rfl⟩
        rw [← hb1] at hx1 hR a1
        rw [← hb2] at hx2 hR a2
        have b18 := b1.toNat_lt
        have b28 := b2.toNat_lt
        have HR := Lib.hid hR
        clear hb1 hb2 c1 c2 c3 hR
        go_enter Tryz.func282, Tryz.ntmps282
        go_wp2_with (first | (go_at_call_of 293 (Value.int IntKind.i64 1); refine (HA.out 1 _).mono ?_; rintro e w1 ⟨rfl, rfl⟩; rw [e1.out]) | (go_at_call_of 293 (Value.int IntKind.i64 2); refine (HA.out 2 _).mono ?_; rintro e w1 ⟨rfl, rfl⟩; rw [e2.out]))
        go_quiet (fail)
        go_wp2
        all_goals
          go_ret
          exact ⟨ret_int (by rw [HR.out]; first | (rw [if_pos (by omega)]; rfl) | (rw [if_neg (by omega)]; rfl)), _, rfl⟩
      · rw [if_neg (by omega), if_neg (by omega)] at hR
        subst hR
        have e2 := Lib.hid (aft_false a2)
        clear a1 a2 c1 c2 c3
        go_enter Tryz.func282, Tryz.ntmps282
        go_wp2_with (first | (go_at_call_of 293 (Value.int IntKind.i64 1); refine (HA.out 1 _).mono ?_; rintro e w1 ⟨rfl, rfl⟩; rw [e1.out]) | (go_at_call_of 293 (Value.int IntKind.i64 2); refine (HA.out 2 _).mono ?_; rintro e w1 ⟨rfl, rfl⟩; rw [e2.out]))
        go_ret
        exact ⟨rfl, 0, rfl⟩
    · rw [if_neg (by omega), if_neg (by omega)] at hR
      subst hR
      have e1 := Lib.hid (aft_false a1)
      clear a1 c1 c2 c3
      go_enter Tryz.func282, Tryz.ntmps282
      go_wp2_with (first | (go_at_call_of 293 (Value.int IntKind.i64 1); refine (HA.out 1 _).mono ?_; rintro e w1 ⟨rfl, rfl⟩; rw [e1.out]))
      go_ret
      exact ⟨rfl, 0, rfl⟩
  rw [if_neg (by omega)] at hR
  by_cases c4 : 240 ≤ c.toNat ∧ c.toNat < 245
  · have c4z : (240 : Int) ≤ (c.toNat : Int) := by omega
    have c4y : (c.toNat : Int) < 245 := by omega
    by_cases a1 : 1 < s.size ∧ 128 ≤ (s.get! 1).toNat ∧ (s.get! 1).toNat < 192
    · have e1 := Lib.hid (aft_true a1)
      by_cases a2 : 2 < s.size ∧ 128 ≤ (s.get! 2).toNat ∧ (s.get! 2).toNat < 192
      · have e2 := Lib.hid (aft_true a2)
        by_cases a3 : 3 < s.size ∧ 128 ≤ (s.get! 3).toNat ∧ (s.get! 3).toNat < 192
        · have e3 := Lib.hid (aft_true a3)
          rw [if_pos ⟨c4.1, c4.2, a1, a2, a3⟩] at hR
          have k1 : 1 < s.size := a1.1
          have k2 : 2 < s.size := a2.1
          have k3 : 3 < s.size := a3.1
          have hx1 := get!_of_lt s 1 k1
          have hx2 := get!_of_lt s 2 k2
          have hx3 := get!_of_lt s 3 k3
          have s1z : (1 : Int) < (s.size : Int) := by omega
          have s2z : (2 : Int) < (s.size : Int) := by omega
          have s3z : (3 : Int) < (s.size : Int) := by omega
          obtain ⟨b1, hb1⟩ : ∃ b, b = s.get! 1 := ⟨_, rfl⟩
          obtain ⟨b2, hb2⟩ : ∃ b, b = s.get! 2 := ⟨_, rfl⟩
          obtain ⟨b3, hb3⟩ : ∃ b, b = s.get! 3 := ⟨_, rfl⟩
          rw [← hb1] at hx1 hR a1
          rw [← hb2] at hx2 hR a2
          rw [← hb3] at hx3 hR a3
          have b18 := b1.toNat_lt
          have b28 := b2.toNat_lt
          have b38 := b3.toNat_lt
          have HR := Lib.hid hR
          clear hb1 hb2 hb3 c1 c2 c3 c4 hR
          go_enter Tryz.func282, Tryz.ntmps282
          go_wp2_with (first | (go_at_call_of 293 (Value.int IntKind.i64 1); refine (HA.out 1 _).mono ?_; rintro e w1 ⟨rfl, rfl⟩; rw [e1.out]) | (go_at_call_of 293 (Value.int IntKind.i64 2); refine (HA.out 2 _).mono ?_; rintro e w1 ⟨rfl, rfl⟩; rw [e2.out]) | (go_at_call_of 293 (Value.int IntKind.i64 3); refine (HA.out 3 _).mono ?_; rintro e w1 ⟨rfl, rfl⟩; rw [e3.out]))
          go_quiet (fail)
          go_wp2
          all_goals
            go_ret
            exact ⟨ret_int (by rw [HR.out]; first | (rw [if_pos (by omega)]; rfl) | (rw [if_neg (by omega)]; rfl)), _, rfl⟩
        · rw [if_neg (by omega)] at hR
          subst hR
          have e3 := Lib.hid (aft_false a3)
          clear a1 a2 a3 c1 c2 c3 c4
          go_enter Tryz.func282, Tryz.ntmps282
          go_wp2_with (first | (go_at_call_of 293 (Value.int IntKind.i64 1); refine (HA.out 1 _).mono ?_; rintro e w1 ⟨rfl, rfl⟩; rw [e1.out]) | (go_at_call_of 293 (Value.int IntKind.i64 2); refine (HA.out 2 _).mono ?_; rintro e w1 ⟨rfl, rfl⟩; rw [e2.out]) | (go_at_call_of 293 (Value.int IntKind.i64 3); refine (HA.out 3 _).mono ?_; rintro e w1 ⟨rfl, rfl⟩; rw [e3.out]))
          go_ret
          exact ⟨rfl, 0, rfl⟩
      · rw [if_neg (by omega)] at hR
        subst hR
        have e2 := Lib.hid (aft_false a2)
        clear a1 a2 c1 c2 c3 c4
        go_enter Tryz.func282, Tryz.ntmps282
        go_wp2_with (first | (go_at_call_of 293 (Value.int IntKind.i64 1); refine (HA.out 1 _).mono ?_; rintro e w1 ⟨rfl, rfl⟩; rw [e1.out]) | (go_at_call_of 293 (Value.int IntKind.i64 2); refine (HA.out 2 _).mono ?_; rintro e w1 ⟨rfl, rfl⟩; rw [e2.out]))
        go_ret
        exact ⟨rfl, 0, rfl⟩
    · rw [if_neg (by omega)] at hR
      subst hR
      have e1 := Lib.hid (aft_false a1)
      clear a1 c1 c2 c3 c4
      go_enter Tryz.func282, Tryz.ntmps282
      go_wp2_with (first | (go_at_call_of 293 (Value.int IntKind.i64 1); refine (HA.out 1 _).mono ?_; rintro e w1 ⟨rfl, rfl⟩; rw [e1.out]))
      go_ret
      exact ⟨rfl, 0, rfl⟩
  · rw [if_neg (by omega)] at hR
    subst hR
    by_cases d1 : c.toNat < 194
    · have d1z : (c.toNat : Int) < 194 := by omega
      clear c1 c2 c3 c4
      go_enter Tryz.func282, Tryz.ntmps282
      go_wp2
      go_ret
      exact ⟨rfl, 0, rfl⟩
    · have d1z : (245 : Int) ≤ (c.toNat : Int) := by omega
      clear c1 c2 c3 c4
      go_enter Tryz.func282, Tryz.ntmps282
      go_wp2
      go_ret
      exact ⟨rfl, 0, rfl⟩
end Go.Proofs.YtpincofjopmaaaaGreatDoor
