/-
  The contract of the document's Num: the number that bytes begin with, what is behind it, and an error, as the reader's own rules have it.
  Conditions: the text is at most 2^62 bytes.
  Plain: where a number that is read ends.
  Conditions: none.
  The contract of package pack's Count at a reader with no error.
  Conditions: the reader holds its bytes (at most 2^47), stands within them; the most is an int.
-/
import Derived.Test.YtpincofjopmaaaaGreatDoorM13
namespace Go.Proofs.YtpincofjopmaaaaGreatDoor
open Go.RowKit
/-- Seven bits a byte, the lowest first. -/
def leVal : List UInt8 → Nat
  | [] => 0
  | c :: t => c.toNat % 128 + 128 * leVal t
theorem lead (s : List UInt8) : ∀ (k i acc : Nat), (∀ j c, j < k → s[j]? = some c → 128 ≤ c.toNat) → k ≤ s.length → i + k ≤ 9 → numFrom i acc s = numFrom (i + k) (acc + 128 ^ i * leVal (s.take k)) (s.drop k) := by
  induction s with
  | nil =>
    intro k i acc _ hk _
    obtain rfl : k = 0 := (by simpa using hk)
    simp [leVal]
  | cons c t ih =>
    intro k i acc h hk hi
    cases k with
    | zero => simp [leVal]
    | succ k =>
      have hc := h 0 c (by omega) rfl
      rw [numFrom_more (by omega) (by omega), ih k (i + 1) _ (fun j d hj hd => h (j + 1) d (by omega) (by simpa using hd)) (by simpa using hk) (by omega)]
      rw [show i + 1 + k = i + (k + 1) from by omega]
      simp only [List.take_succ_cons, List.drop_succ_cons, leVal]
      congr 1
      rw [Nat.pow_succ, Nat.mul_add, Nat.add_assoc, Nat.mul_comm (c.toNat % 128) (128 ^ i), Nat.mul_assoc]
theorem leVal_snoc (l : List UInt8) (c : UInt8) : leVal (l ++ [c]) = leVal l + c.toNat % 128 * 128 ^ l.length := by
  induction l with
  | nil => simp [leVal]
  | cons d t ih =>
    simp only [List.cons_append, leVal, ih, List.length_cons, Nat.pow_succ]
    rw [Nat.mul_add, Nat.add_assoc]
    congr 2
    rw [← Nat.mul_assoc, Nat.mul_comm 128, Nat.mul_assoc, Nat.mul_comm 128]
/-- The three ends of the first walk. -/
theorem num_short (s : List UInt8) (k : Nat) (h : ∀ j c, j < k → s[j]? = some c → 128 ≤ c.toNat) (hk : k = s.length) (h9 : k ≤ 9) : numFrom 0 0 s = (10, 0, k) := by
  rw [lead s k 0 0 h (by omega) (by omega), hk, List.drop_length]
  simp [numFrom]
theorem num_end (s : List UInt8) (k : Nat) (c : UInt8) (h : ∀ j c, j < k → s[j]? = some c → 128 ≤ c.toNat) (h9 : k ≤ 9) (hc : s[k]? = some c) : numFrom 0 0 s = if (0 < k ∧ c.toNat = 0) ∨ (k = 9 ∧ 1 < c.toNat) then (11, 0, k + 1) else if c.toNat < 128 then (0, leVal (s.take (k + 1)), k + 1) else numFrom (k + 1) (leVal (s.take (k + 1))) (s.drop (k + 1)) := by
  have hkl : k < s.length := (List.getElem?_eq_some_iff.1 hc).1
  have hce : s[k] = c := (List.getElem?_eq_some_iff.1 hc).2
  have ht : leVal (s.take (k + 1)) = leVal (s.take k) + c.toNat % 128 * 128 ^ k := by
    rw [List.take_succ_eq_append_getElem hkl, leVal_snoc, hce, List.length_take, Nat.min_eq_left (by omega)]
  rw [lead s k 0 0 h (by omega) (by omega), List.drop_eq_getElem_cons hkl, hce, Nat.zero_add, Nat.zero_add, Nat.pow_zero, Nat.one_mul, ht]
  by_cases h1 : (0 < k ∧ c.toNat = 0) ∨ (k = 9 ∧ 1 < c.toNat)
  · rw [if_pos h1, numFrom_bad h1]
  · rw [if_neg h1]
    by_cases h2 : c.toNat < 128
    · rw [if_pos h2, numFrom_done h1 h2]
    · rw [if_neg h2, numFrom_more h1 h2]
theorem leVal_drop (l : List UInt8) : leVal (l.drop 1) ≤ leVal l := by
  cases l with
  | nil => simp [leVal]
  | cons c t => simp only [List.drop_succ_cons, List.drop_zero, leVal]; omega
theorem leVal_drops (l : List UInt8) (k : Nat) : leVal (l.drop k) ≤ leVal l := by
  induction k with
  | zero => simp
  | succ k ih =>
    have := leVal_drop (l.drop k)
    rw [List.drop_drop] at this
    omega
/-- What Num answers. -/
def NumRef (s : List UInt8) (w : World) (e : Ending) (w' : World) : Prop :=
  e = .returned (.tuple #[.int .u64 (numFrom 0 0 s).2.1, .string (S (if (numFrom 0 0 s).1 = 0 then s.drop (numFrom 0 0 s).2.2 else s)), .int .i64 (numFrom 0 0 s).1]) ∧ ∃ q, w' = w.drewN q
end Go.Proofs.YtpincofjopmaaaaGreatDoor
namespace Go.Proofs.YtpincofjopmaaaaGreatDoor
open Go.RowKit
theorem numFrom_pos : ∀ (t : List UInt8) (k acc : Nat), (numFrom k acc t).1 = 0 → k < (numFrom k acc t).2.2 ∧ (numFrom k acc t).2.2 ≤ k + t.length
  | [], k, acc, h => by simp [numFrom] at h
  | x :: t, k, acc, h => by
    by_cases h1 : (0 < k ∧ x.toNat = 0) ∨ (k = 9 ∧ 1 < x.toNat)
    · rw [numFrom_bad h1] at h; simp at h
    · by_cases h2 : x.toNat < 128
      · rw [numFrom_done h1 h2]; simp
      · rw [numFrom_more h1 h2] at h ⊢
        have := numFrom_pos t (k + 1) _ h
        simp only [List.length_cons]
        omega
end Go.Proofs.YtpincofjopmaaaaGreatDoor
namespace Go.Proofs.YtpincofjopmaaaaGreatDoor
open Go.RowKit
set_option maxHeartbeats 2000000 in
set_option maxRecDepth 100000 in
theorem rcount_num (b : Nat) (v : Value) (l : List UInt8) (i E V K : Nat) (most : Int) (w : World) (h : RdAt w b v l i 0) (hR : numFrom 0 0 (l.drop i) = (E, V, K)) (hE : E ≠ 0) :
    Calls Tryz.prog 216 #[.pointer (some ⟨b, 0, none⟩), .int .i64 most] w (Got b v l i E (.int .i64 0) w) := by
  have hlt := lt_of_block h.blk
  have hal := (h.alloc (.cells #[.pointer (some ⟨b, 0, none⟩)] 127)).alloc (.cells #[.int .i64 most] 3)
  have c2 : ((w.alloc (.cells #[.pointer (some ⟨b, 0, none⟩)] 127)).alloc (.cells #[.int .i64 most] 3)).cell? ⟨b, 2, none⟩ = some (.int .i64 0) := hal.c2
  have c1 := hal.c1
  have hle := h.le
  have hn := number_any b v l i 0 _ hal
  rw [hR] at hn
  have HN := Lib.hid hn
  have hb : ((E : Int) != 0) = true := by rw [bne_iff_ne]; omega
  clear h hn hR hal
  go_enter Tryz.func216, Tryz.ntmps216
  go_wp2_with (first | (go_at_call 251; refine HN.out.mono ?_; rintro e w1 ⟨rfl, hon, j, hrd, _⟩; have d1 := hrd.c1; have d2 := hrd.c2; have f1 := hrd.free 1; have f2 := hrd.free 2) | go_in)
  go_ret
  obtain ⟨h1, h2⟩ := hrd.failed ((((Only.refl _ _).alloc _).alloc _).trans hon) i E hle
  exact ⟨rfl, h1, h2⟩
set_option maxHeartbeats 2000000 in
set_option maxRecDepth 100000 in
theorem rcount_ok (b : Nat) (v : Value) (l : List UInt8) (i V K m : Nat) (w : World) (h : RdAt w b v l i 0) (hm : m ≤ 9223372036854775807) (hR : numFrom 0 0 (l.drop i) = (0, V, K)) (hV : V ≤ m) (hL : i + K + V ≤ l.length) :
    Calls Tryz.prog 216 #[.pointer (some ⟨b, 0, none⟩), .int .i64 (m : Nat)] w (Got b v l (i + K) 0 (.int .i64 (V : Nat)) w) := by
  have hlt := lt_of_block h.blk
  have hal := (h.alloc (.cells #[.pointer (some ⟨b, 0, none⟩)] 127)).alloc (.cells #[.int .i64 (m : Nat)] 3)
  have c2 : ((w.alloc (.cells #[.pointer (some ⟨b, 0, none⟩)] 127)).alloc (.cells #[.int .i64 (m : Nat)] 3)).cell? ⟨b, 2, none⟩ = some (.int .i64 0) := hal.c2
  have c1 := hal.c1
  have hsm := h.small
  have hn := number_any b v l i 0 _ hal
  rw [hR] at hn
  have HN := Lib.hid hn
  obtain ⟨p, hp⟩ : ∃ p, p = i + K := ⟨_, rfl⟩
  rw [← hp] at hL ⊢
  have HP := Lib.hid hp
  have hz1 : decide ((m : Int) < (V : Int)) = false := by simp; omega
  have hz2 : decide ((l.length : Int) - (p : Int) < (V : Int)) = false := by simp; omega
  have hz3 : (0 : Int) ≤ (l.length : Int) - (p : Int) := by omega
  clear h hn hR hal hp
  go_enter Tryz.func216, Tryz.ntmps216
  go_wp2_with (first | (go_at_call 251; refine HN.out.mono ?_; rintro e w1 ⟨rfl, hon, j, hrd, hj⟩; obtain rfl : p = j := HP.out.trans (hj rfl).symm; clear hj) | (go_at_call 252; refine (left_any b v l p 0 _ hrd).mono ?_; rintro e w2 ⟨rfl, q, rfl⟩) | go_in)
  go_ret
  exact ⟨rfl, ((((Only.refl _ _).alloc _).alloc _).trans hon).drewN _, hrd.drewN _⟩
set_option maxHeartbeats 2000000 in
set_option maxRecDepth 100000 in
theorem rcount_neg (b : Nat) (v : Value) (l : List UInt8) (i V K : Nat) (most : Int) (w : World) (h : RdAt w b v l i 0) (hR : numFrom 0 0 (l.drop i) = (0, V, K)) (hneg : most < 0) :
    Calls Tryz.prog 216 #[.pointer (some ⟨b, 0, none⟩), .int .i64 most] w (Got b v l i 12 (.int .i64 0) w) := by
  have hlt := lt_of_block h.blk
  have hal := (h.alloc (.cells #[.pointer (some ⟨b, 0, none⟩)] 127)).alloc (.cells #[.int .i64 most] 3)
  have c2 : ((w.alloc (.cells #[.pointer (some ⟨b, 0, none⟩)] 127)).alloc (.cells #[.int .i64 most] 3)).cell? ⟨b, 2, none⟩ = some (.int .i64 0) := hal.c2
  have c1 := hal.c1
  have hle := h.le
  have hn := number_any b v l i 0 _ hal
  rw [hR] at hn
  have HN := Lib.hid hn
  clear h hn hR hal
  go_enter Tryz.func216, Tryz.ntmps216
  go_wp2_with (first | (go_at_call 251; refine HN.out.mono ?_; rintro e w1 ⟨rfl, hon, j, hrd, _⟩; have d1 := hrd.c1; have d2 := hrd.c2; have f1 := hrd.free 1; have f2 := hrd.free 2) | go_in)
  go_ret
  obtain ⟨h1, h2⟩ := hrd.failed ((((Only.refl _ _).alloc _).alloc _).trans hon) i 12 hle
  exact ⟨rfl, h1, h2⟩
set_option maxHeartbeats 2000000 in
set_option maxRecDepth 100000 in
theorem rcount_over (b : Nat) (v : Value) (l : List UInt8) (i V K m : Nat) (w : World) (h : RdAt w b v l i 0) (hm : m ≤ 9223372036854775807) (hR : numFrom 0 0 (l.drop i) = (0, V, K)) (hV : m < V) :
    Calls Tryz.prog 216 #[.pointer (some ⟨b, 0, none⟩), .int .i64 (m : Nat)] w (Got b v l i 12 (.int .i64 0) w) := by
  have hlt := lt_of_block h.blk
  have hal := (h.alloc (.cells #[.pointer (some ⟨b, 0, none⟩)] 127)).alloc (.cells #[.int .i64 (m : Nat)] 3)
  have c2 : ((w.alloc (.cells #[.pointer (some ⟨b, 0, none⟩)] 127)).alloc (.cells #[.int .i64 (m : Nat)] 3)).cell? ⟨b, 2, none⟩ = some (.int .i64 0) := hal.c2
  have c1 := hal.c1
  have hle := h.le
  have hn := number_any b v l i 0 _ hal
  rw [hR] at hn
  have HN := Lib.hid hn
  have hz1 : (m : Int) < (V : Int) := by omega
  clear h hn hR hal
  go_enter Tryz.func216, Tryz.ntmps216
  go_wp2_with (first | (go_at_call 251; refine HN.out.mono ?_; rintro e w1 ⟨rfl, hon, j, hrd, _⟩; have d1 := hrd.c1; have d2 := hrd.c2; have f1 := hrd.free 1; have f2 := hrd.free 2) | go_in)
  go_ret
  obtain ⟨h1, h2⟩ := hrd.failed ((((Only.refl _ _).alloc _).alloc _).trans hon) i 12 hle
  exact ⟨rfl, h1, h2⟩
set_option maxHeartbeats 2000000 in
set_option maxRecDepth 100000 in
theorem rcount_more (b : Nat) (v : Value) (l : List UInt8) (i V K m : Nat) (w : World) (h : RdAt w b v l i 0) (hm : m ≤ 9223372036854775807) (hR : numFrom 0 0 (l.drop i) = (0, V, K)) (hV : V ≤ m) (hL : l.length < i + K + V) :
    Calls Tryz.prog 216 #[.pointer (some ⟨b, 0, none⟩), .int .i64 (m : Nat)] w (Got b v l i 12 (.int .i64 0) w) := by
  have hlt := lt_of_block h.blk
  have hal := (h.alloc (.cells #[.pointer (some ⟨b, 0, none⟩)] 127)).alloc (.cells #[.int .i64 (m : Nat)] 3)
  have c2 : ((w.alloc (.cells #[.pointer (some ⟨b, 0, none⟩)] 127)).alloc (.cells #[.int .i64 (m : Nat)] 3)).cell? ⟨b, 2, none⟩ = some (.int .i64 0) := hal.c2
  have c1 := hal.c1
  have hle := h.le
  have hsm := h.small
  have hn := number_any b v l i 0 _ hal
  have hkl := numFrom_pos (l.drop i) 0 0
  rw [hR] at hn hkl
  have hkl2 := (hkl rfl).2
  rw [List.length_drop] at hkl2
  simp only [] at hkl2
  have HN := Lib.hid hn
  obtain ⟨p, hp⟩ : ∃ p, p = i + K := ⟨_, rfl⟩
  rw [← hp] at hL
  have HP := Lib.hid hp
  have hz1 : decide ((m : Int) < (V : Int)) = false := by simp; omega
  have hz2 : (l.length : Int) - (p : Int) < (V : Int) := by omega
  have hz3 : (0 : Int) ≤ (l.length : Int) - (p : Int) := by omega
  clear h hn hR hal hp hkl hkl2
  go_enter Tryz.func216, Tryz.ntmps216
  go_wp2_with (first | (go_at_call 251; refine HN.out.mono ?_; rintro e w1 ⟨rfl, hon, j, hrd, hj⟩; obtain rfl : p = j := HP.out.trans (hj rfl).symm; clear hj) | (go_at_call 252; refine (left_any b v l p 0 _ hrd).mono ?_; rintro e w2 ⟨rfl, q, rfl⟩; have hrd2 := hrd.drewN q; have d1 := hrd2.c1; have d2 := hrd2.c2; have f1 := hrd2.free 1; have f2 := hrd2.free 2) | go_in)
  go_ret
  obtain ⟨h1, h2⟩ := hrd2.failed (((((Only.refl _ _).alloc _).alloc _).trans hon).drewN q) i 12 hle
  exact ⟨rfl, h1, h2⟩
end Go.Proofs.YtpincofjopmaaaaGreatDoor
