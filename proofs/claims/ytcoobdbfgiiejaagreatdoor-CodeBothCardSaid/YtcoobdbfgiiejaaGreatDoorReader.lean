/-
  The contracts of package pack's reader, the inner part: Left, next, number: what a reader reads of its bytes as a number, by the rules of the document.
  Conditions: the reader holds its bytes (at most 2^47), stands within them.
-/
import Derived.Test.YtcoobdbfgiiejaaGreatDoorWriterB
import Derived.Deep.QuietTactic
import Derived.BigQuiet
import Derived.Lib.VarintBits
import Derived.Laws.ShiftsVarLaws
namespace Go.Proofs.YtcoobdbfgiiejaaGreatDoor
open Go.RowKit
/-- A number of the bytes: i groups have been read, they make acc. The error, the number, how many bytes have been read in all. -/
def numFrom (i acc : Nat) : List UInt8 → Nat × Nat × Nat
  | [] => (10, 0, i)
  | c :: t =>
    if (0 < i ∧ c.toNat = 0) ∨ (i = 9 ∧ 1 < c.toNat) then (11, 0, i + 1)
    else if c.toNat < 128 then (0, acc + c.toNat % 128 * 128 ^ i, i + 1)
    else numFrom (i + 1) (acc + c.toNat % 128 * 128 ^ i) t
theorem RdAt.drewN {w : World} {b : Nat} {v : Value} {l : List UInt8} {i err : Nat} (h : RdAt w b v l i err) (q : Nat) : RdAt (w.drewN q) b v l i err := ⟨h.blk, h.row, h.le, h.small⟩
theorem row_shape_len {B : Nat} {w : World} {e : TypeId} {size : Nat} {v : Value} {n : Nat} {xs : List Value} (h : w.ownsRow B e size v n xs) : ∃ ao c, v = .slice ao n c := by
  rcases h.2 with ⟨rfl, rfl⟩ | ⟨g, cap, cur, rfl, _⟩
  · exact ⟨_, _, rfl⟩
  · exact ⟨_, _, rfl⟩
theorem row_at {w : World} {v : Value} {l : List UInt8} (h : RowIs w v l) (j : Nat) (hj : j < l.length) : ∃ g c, v = .slice (some ⟨g, 0, none⟩) l.length c ∧ w.cell? ⟨g, j, none⟩ = some (.int .u8 (l[j].toNat : Int)) := by
  rcases h.2 with ⟨rfl, h0⟩ | ⟨g, cap, cur, rfl, _⟩
  · omega
  · refine ⟨g, cap, rfl, ?_⟩
    rw [h.cellAt j (by omega), byteCells_at, List.getElem?_eq_getElem hj]
    rfl

set_option maxHeartbeats 1000000 in
set_option maxRecDepth 100000 in
theorem left_any (b : Nat) (v : Value) (l : List UInt8) (i err : Nat) (w : World) (h : RdAt w b v l i err) :
    Calls Tryz.prog 47 #[.pointer (some ⟨b, 0, none⟩)] w fun e w' => e = .returned (.int .i64 ((l.length : Int) - i)) ∧ ∃ q, w' = w.drewN q := by
  have c0 := h.c0
  have c1 := h.c1
  have hle := h.le
  have hsm := h.small
  obtain ⟨ao, c, rfl⟩ := row_shape_len h.row
  clear h
  go_enter Tryz.func47, Tryz.ntmps47
  go_wp2
  go_quiet (fail)
  go_wp2
  go_ret
  exact ⟨rfl, _, rfl⟩
set_option maxHeartbeats 1000000 in
set_option maxRecDepth 100000 in
theorem next_end (b : Nat) (v : Value) (l : List UInt8) (err : Nat) (w : World) (h : RdAt w b v l l.length err) :
    Calls Tryz.prog 72 #[.pointer (some ⟨b, 0, none⟩)] w fun e w' => e = .returned (.tuple #[.int .u8 0, .int .i64 10]) ∧ ∃ q, w' = w.drewN q := by
  have HL := Lib.hid (left_any b v l _ err w h)
  have h0 : (((l.length : Int) - (l.length : Int)) == 0) = true := by simp
  clear h
  go_enter Tryz.func72, Tryz.ntmps72
  go_wp2_with (go_at_call 47; refine HL.out.mono ?_; rintro e w1 ⟨rfl, q, rfl⟩)
  go_ret2
  exact ⟨rfl, _, rfl⟩
set_option maxHeartbeats 1000000 in
set_option maxRecDepth 100000 in
theorem next_one (b : Nat) (v : Value) (l : List UInt8) (i err : Nat) (w : World) (h : RdAt w b v l i err) (hi : i < l.length) :
    Calls Tryz.prog 72 #[.pointer (some ⟨b, 0, none⟩)] w fun e w' => e = .returned (.tuple #[.int .u8 (l[i].toNat : Int), .int .i64 0]) ∧ ∃ q, w' = (w.drewN q).setCell ⟨b, 1, none⟩ (.int .i64 ((i + 1 : Nat) : Int)) := by
  have HL := Lib.hid (left_any b v l _ err w h)
  have c0 := h.c0
  have c1 := h.c1
  have hle := h.le
  have hsm := h.small
  have f1 := h.free 1
  obtain ⟨g, c, rfl, hcell⟩ := row_at h.row i hi
  have h0 : (((l.length : Int) - (i : Int)) == 0) = false := beq_eq_false_iff_ne.2 (by omega)
  have hiz : (i : Int) < (l.length : Int) := by omega
  obtain ⟨x, hx⟩ : ∃ x, x = l[i] := ⟨_, rfl⟩
  rw [← hx] at hcell ⊢
  clear h hx
  go_enter Tryz.func72, Tryz.ntmps72
  go_wp2_with (go_at_call 47; refine HL.out.mono ?_; rintro e w1 ⟨rfl, q, rfl⟩)
  go_quiet (fail)
  go_wp2
  go_ret2
  exact ⟨rfl, _, rfl⟩

/-- What the inner reading of a number says. -/
def NumPost (b : Nat) (v : Value) (l : List UInt8) (i err : Nat) (R : Nat × Nat × Nat) (w : World) (e : Ending) (w' : World) : Prop :=
  e = .returned (.tuple #[.int .u64 R.2.1, .int .i64 R.1]) ∧ Only (fun k => k = b) w w' ∧ ∃ j, RdAt w' b v l j err ∧ (R.1 = 0 → j = i + R.2.2)
def Byte (b : Nat) (v : Value) (l : List UInt8) (i err : Nat) (x : UInt8) (w : World) (e : Ending) (w' : World) : Prop :=
  e = .returned (.tuple #[.int .u8 (x.toNat : Int), .int .i64 0]) ∧ RdAt w' b v l (i + 1) err ∧ Only (fun k => k = b) w w'
theorem next_byte (b : Nat) (v : Value) (l : List UInt8) (i err : Nat) (w : World) (h : RdAt w b v l i err) (hi : i < l.length) :
    Calls Tryz.prog 72 #[.pointer (some ⟨b, 0, none⟩)] w (Byte b v l i err l[i] w) :=
  (next_one b v l i err w h hi).mono fun e w' ⟨he, q, hw⟩ => by
    subst hw
    exact ⟨he, (h.drewN q).setAt (i + 1) (by omega), ((Only.refl (fun k => k = b) w).drewN q).setCell (p := ⟨b, 1, none⟩) rfl _⟩
theorem drop_at (l : List UInt8) (i : Nat) (h : i < l.length) : l.drop i = l[i] :: l.drop (i + 1) := List.drop_eq_getElem_cons h

theorem numFrom_bad {k acc : Nat} {x : UInt8} {t : List UInt8} (h : (0 < k ∧ x.toNat = 0) ∨ (k = 9 ∧ 1 < x.toNat)) : numFrom k acc (x :: t) = (11, 0, k + 1) := by
  unfold numFrom; rw [if_pos h]
theorem numFrom_done {k acc : Nat} {x : UInt8} {t : List UInt8} (h : ¬ ((0 < k ∧ x.toNat = 0) ∨ (k = 9 ∧ 1 < x.toNat))) (h1 : x.toNat < 128) : numFrom k acc (x :: t) = (0, acc + x.toNat % 128 * 128 ^ k, k + 1) := by
  unfold numFrom; rw [if_neg h, if_pos h1]
theorem numFrom_more {k acc : Nat} {x : UInt8} {t : List UInt8} (h : ¬ ((0 < k ∧ x.toNat = 0) ∨ (k = 9 ∧ 1 < x.toNat))) (h1 : ¬ x.toNat < 128) : numFrom k acc (x :: t) = numFrom (k + 1) (acc + x.toNat % 128 * 128 ^ k) t := by
  conv => lhs; unfold numFrom
  rw [if_neg h, if_neg h1]
theorem pow_128 (k : Nat) : (2 : Nat) ^ (7 * k) = 128 ^ k := by rw [Nat.pow_mul]
set_option maxRecDepth 100000 in
theorem orv (k acc x : Nat) (hk : k ≤ 9) (hacc : acc < 128 ^ k) (hx : x < 256) (h9 : k = 9 → x ≤ 1) :
    bits .or .u64 (acc : Int) (IntKind.u64.wrap (IntKind.u64.wrap (bits .and .u8 (x : Int) 127) * 2 ^ (7 * k))) = ((acc + x % 128 * 128 ^ k : Nat) : Int) := by
  have e0 : bits .and .u8 (x : Int) 127 = ((x % 128 : Nat) : Int) := by rw [u8_and127 _ (by omega) (by omega)]; omega
  have hm : x % 128 < 128 := Nat.mod_lt _ (by decide)
  have hb : x % 128 * 128 ^ k < 18446744073709551616 := by
    rcases Nat.lt_or_ge k 9 with h | h
    · have h1 : 128 ^ k ≤ 128 ^ 8 := Nat.pow_le_pow_right (by decide) (by omega)
      have h2 : x % 128 * 128 ^ k ≤ 127 * 128 ^ 8 := Nat.mul_le_mul (by omega) h1
      exact Nat.lt_of_le_of_lt h2 (by decide)
    · obtain rfl : k = 9 := by omega
      have := h9 rfl
      have h2 : x % 128 * 128 ^ 9 ≤ 1 * 128 ^ 9 := Nat.mul_le_mul (by omega) (Nat.le_refl _)
      exact Nat.lt_of_le_of_lt h2 (by decide)
  have ha : acc < 18446744073709551616 := by
    have h1 : 128 ^ k ≤ 128 ^ 9 := Nat.pow_le_pow_right (by decide) hk
    exact Nat.lt_of_lt_of_le hacc (Nat.le_trans h1 (by decide))
  have e1 : IntKind.u64.wrap (IntKind.u64.wrap ((x % 128 : Nat) : Int) * 2 ^ (7 * k)) = ((x % 128 * 128 ^ k : Nat) : Int) := by
    have e2 : ((2 : Int) ^ (7 * k)) = ((128 ^ k : Nat) : Int) := by rw [← pow_128]; simp
    rw [e2, IntKind.wrap_u64, IntKind.wrap_u64]
    have e3 : ((x % 128 : Nat) : Int) % 18446744073709551616 = ((x % 128 : Nat) : Int) := by omega
    rw [e3, ← Int.natCast_mul]
    omega
  rw [e0, e1]
  have e4 : ((2 : Int) ^ (7 * k)) = ((128 ^ k : Nat) : Int) := by rw [← pow_128]; simp
  have hj := bits_join_low .u64 64 (by decide) wraps_u64 (7 * k) (acc : Int) ((x % 128 * 128 ^ k : Nat) : Int) (by omega) (by rw [e4]; omega) (by omega) (by omega) (by rw [e4, ← Int.natCast_emod, Nat.mul_mod_left]; rfl) (by omega)
  rw [hj]
  omega
theorem orv_lt (k acc x : Nat) (hacc : acc < 128 ^ k) : acc + x % 128 * 128 ^ k < 128 ^ (k + 1) := by
  have hm : x % 128 < 128 := Nat.mod_lt _ (by decide)
  have h2 : x % 128 * 128 ^ k ≤ 127 * 128 ^ k := Nat.mul_le_mul (by omega) (Nat.le_refl _)
  rw [Nat.pow_succ]
  omega
theorem ret_pair {k k' : IntKind} {a a' b b' : Int} (h : a = a') (h' : b = b') : Ending.returned (.tuple #[.int k a, .int k' b]) = .returned (.tuple #[.int k a', .int k' b']) := by rw [h, h']

set_option maxHeartbeats 4000000 in
set_option maxRecDepth 100000 in
theorem number_any (b : Nat) (v : Value) (l : List UInt8) (i err : Nat) (w : World) (h : RdAt w b v l i err) :
    Calls Tryz.prog 46 #[.pointer (some ⟨b, 0, none⟩)] w (NumPost b v l i err (numFrom 0 0 (l.drop i)) w) := by
  obtain ⟨R, hR⟩ : ∃ R, R = numFrom 0 0 (l.drop i) := ⟨_, rfl⟩
  rw [← hR]
  have HR := Lib.hid hR
  clear hR
  go_enter Tryz.func46, Tryz.ntmps46
  go_wp2
  go_loopw [4, 8] (fun va vi wr => ∃ (k acc : Nat), vi = .int .i64 k ∧ va = .int .u64 acc ∧ k ≤ 9 ∧ acc < 128 ^ k ∧ RdAt wr b v l (i + k) err ∧ Only (fun k => k = b) w wr ∧ numFrom k acc (l.drop (i + k)) = R) (fun _ vi _ => 10 - (intOf vi).toNat)
  case atStart => exact ⟨0, 0, rfl, rfl, by omega, by simp, h, Only.refl _ _, HR.out.symm⟩
  case round =>
    obtain ⟨k, acc, rfl, rfl, hk, hacc, hrd, hon, hnum⟩ := hrel
    have HA := Lib.hid hacc
    have HM := Lib.hid hnum
    clear hacc hnum h
    have hle := hrd.le
    by_cases hend : i + k = l.length
    · have HE := Lib.hid (next_end b v l err wr (hend ▸ hrd))
      have hR := HM.out
      rw [hend, List.drop_length] at hR
      clear hend
      have HR2 := Lib.hid hR
      clear hR
      go_wp2_with (go_at_call 72; refine HE.out.mono ?_; rintro e w1 ⟨rfl, q, rfl⟩)
      go_ret2
      refine ⟨?_, hon.drewN q, _, hrd.drewN q, ?_⟩
      · rw [← HR2.out]; rfl
      · intro h0; rw [← HR2.out] at h0; cases h0
    · have hlt : i + k < l.length := by omega
      have HE := Lib.hid (next_byte b v l (i + k) err wr hrd hlt)
      have hR := HM.out
      rw [drop_at l (i + k) hlt] at hR
      obtain ⟨x, hx⟩ : ∃ x, x = l[i + k] := ⟨_, rfl⟩
      rw [← hx] at hR HE
      have hx8 : x.toNat < 256 := x.toNat_lt
      clear hend hx
      have HR2 := Lib.hid hR
      clear hR
      go_wp2_with (go_at_call 72; refine HE.out.mono ?_; rintro e w1 ⟨rfl, hrd1, hon1⟩)
      all_goals have hon2 := hon.trans hon1
      · go_ret2
        have h1 : 0 < k := by assumption
        have h2 : x.toNat = 0 := by assumption
        have e := HR2.out
        rw [numFrom_bad (.inl ⟨h1, h2⟩)] at e
        exact ⟨by rw [← e]; rfl, hon2, _, hrd1, fun h0 => by rw [← e] at h0; cases h0⟩
      · go_ret2
        have hk9 : (k : Int) = 9 := by assumption
        have h2 : ¬ x.toNat = 0 := by assumption
        have h3 : ((x.toNat : Int) == 0) = true ∨ (1 : Int) < (x.toNat : Int) := by assumption
        have h4 : 1 < x.toNat := by
          rcases h3 with h3 | h3
          · rw [beq_iff_eq] at h3; omega
          · omega
        have e := HR2.out
        rw [numFrom_bad (.inr ⟨by omega, h4⟩)] at e
        exact ⟨by rw [← e]; rfl, hon2, _, hrd1, fun h0 => by rw [← e] at h0; cases h0⟩
      · go_ret2
        have hk9 : (k : Int) = 9 := by assumption
        have h2 : ¬ x.toNat = 0 := by assumption
        have h3 : ((x.toNat : Int) == 0) = false ∧ (x.toNat : Int) ≤ 1 := by assumption
        obtain rfl : k = 9 := by omega
        have e := HR2.out
        rw [numFrom_done (by omega) (by omega)] at e
        have ho := orv 9 acc x.toNat (by omega) HA.out hx8 (fun _ => by omega)
        rw [show (2 : Int) ^ (7 * 9) = 9223372036854775808 from by decide] at ho
        exact ⟨by rw [← e]; exact ret_pair ho rfl, hon2, _, hrd1, fun _ => by rw [← e]; exact Nat.add_assoc _ _ _⟩
      · go_ret2
        have h1 : 0 < k := by assumption
        have hk9 : ¬ (k : Int) = 9 := by assumption
        have h2 : ¬ x.toNat = 0 := by assumption
        have h3 : (x.toNat : Int) < 128 := by assumption
        have e := HR2.out
        rw [numFrom_done (by omega) (by omega)] at e
        have ho := orv k acc x.toNat (by omega) HA.out hx8 (fun _ => by omega)
        exact ⟨by rw [← e]; exact ret_pair ho rfl, hon2, _, hrd1, fun _ => by rw [← e]; exact Nat.add_assoc _ _ _⟩
      · have h1 : 0 < k := by assumption
        have hk9 : ¬ (k : Int) = 9 := by assumption
        have h2 : ¬ x.toNat = 0 := by assumption
        have h3 : (128 : Int) ≤ (x.toNat : Int) := by assumption
        have e := HR2.out
        rw [numFrom_more (by omega) (by omega)] at e
        have ho := orv k acc x.toNat (by omega) HA.out hx8 (fun _ => by omega)
        go_roundw
        case rel => exact ⟨k + 1, _, by go_num, by rw [ho], by omega, orv_lt k acc x.toNat HA.out, by rw [← Nat.add_assoc]; exact hrd1, hon2, by rw [← Nat.add_assoc]; exact e⟩
        case measure => simp [intOf]; omega
      · go_ret2
        have h1 : ¬ 0 < k := by assumption
        have h3 : (x.toNat : Int) < 128 := by assumption
        have e := HR2.out
        rw [numFrom_done (by omega) (by omega)] at e
        have ho := orv k acc x.toNat (by omega) HA.out hx8 (fun _ => by omega)
        exact ⟨by rw [← e]; exact ret_pair ho rfl, hon2, _, hrd1, fun _ => by rw [← e]; exact Nat.add_assoc _ _ _⟩
      · have h1 : ¬ 0 < k := by assumption
        have h3 : (128 : Int) ≤ (x.toNat : Int) := by assumption
        have e := HR2.out
        rw [numFrom_more (by omega) (by omega)] at e
        have ho := orv k acc x.toNat (by omega) HA.out hx8 (fun _ => by omega)
        go_roundw
        case rel => exact ⟨k + 1, _, by go_num, by rw [ho], by omega, orv_lt k acc x.toNat HA.out, by rw [← Nat.add_assoc]; exact hrd1, hon2, by rw [← Nat.add_assoc]; exact e⟩
        case measure => simp [intOf]; omega
end Go.Proofs.YtcoobdbfgiiejaaGreatDoor
