/-
  The contracts of package pack's reader, the inner part: Left, next, number: what a reader reads of its bytes as a number, by the rules of the document.
  Conditions: the reader holds its bytes (at most 2^47), stands within them.
  The contracts of package pack's reader, the outer part: Read, Num, Int, Flag, Err, End.
  Conditions: the reader holds its bytes (at most 2^47), stands within them.
  The shelf's contract of unicode/utf8.ValidString, laid at this translation: which numbers its functions, types and variables have here.
  Conditions: none; each field is a closed fact of the translation.
-/
import Derived.Test.YtpincofjopmaaaaGreatDoorM08
import Derived.Deep.QuietTactic
import Derived.BigQuiet
import Derived.Lib.VarintBits
import Derived.Laws.ShiftsVarLaws
import Derived.Ground.NamesProg
import Derived.Shelf.Unicode.ValidAny
import Derived.Test.YtpincofjopmaaaaGreatDoorProg
namespace Go.Proofs.YtpincofjopmaaaaGreatDoor
open Go.RowKit
/-- A number of the bytes: i groups have been read, they make acc. The error, the number, how many bytes have been read in all. -/
def numFrom (i acc : Nat) : List UInt8 → Nat × Nat × Nat
  | [] => (10, 0, i)
  | c :: t =>
    if (0 < i ∧ c.toNat = 0) ∨ (i = 9 ∧ 1 < c.toNat) then (11, 0, i + 1)
    else if c.toNat < 128 then (0, acc + c.toNat % 128 * 128 ^ i, i + 1)
    else numFrom (i + 1) (acc + c.toNat % 128 * 128 ^ i) t
theorem RdAt.drewN {w : World} {b : Nat} {v : Value} {l : List UInt8} {i err : Nat} (h : RdAt w b v l i err) (q : Nat) : RdAt (w.drewN q) b v l i err := ⟨h.blk, h.row, h.le, h.small⟩
theorem row_shape_len {B : Nat} {w : World} {e : TypeId} {size : Nat} {v : Value} {n : Nat} {xs : List Value} (h : w.ownsRow B e size v n xs) : ∃ ao c, v = .slice ao n c := by
  rcases h.2 with ⟨rfl, rfl⟩ | ⟨g, cap, cur, rfl, _⟩
  · exact ⟨_, _, rfl⟩
  · exact ⟨_, _, rfl⟩
theorem row_at {w : World} {v : Value} {l : List UInt8} (h : RowIs w v l) (j : Nat) (hj : j < l.length) : ∃ g c, v = .slice (some ⟨g, 0, none⟩) l.length c ∧ w.cell? ⟨g, j, none⟩ = some (.int .u8 (l[j].toNat : Int)) := by
  rcases h.2 with ⟨rfl, h0⟩ | ⟨g, cap, cur, rfl, _⟩
  · omega
  · refine ⟨g, cap, rfl, ?_⟩
    rw [h.cellAt j (by omega), byteCells_at, List.getElem?_eq_getElem hj]
    rfl

set_option maxHeartbeats 1000000 in
set_option maxRecDepth 100000 in
theorem left_any (b : Nat) (v : Value) (l : List UInt8) (i err : Nat) (w : World) (h : RdAt w b v l i err) :
    Calls Tryz.prog 252 #[.pointer (some ⟨b, 0, none⟩)] w fun e w' => e = .returned (.int .i64 ((l.length : Int) - i)) ∧ ∃ q, w' = w.drewN q := by
  have c0 := h.c0
  have c1 := h.c1
  have hle := h.le
  have hsm := h.small
  obtain ⟨ao, c, rfl⟩ := row_shape_len h.row
  clear h
  go_enter Tryz.func252, Tryz.ntmps252
  go_wp2
  go_quiet (fail)
  go_wp2
  go_ret
  exact ⟨rfl, _, rfl⟩
set_option maxHeartbeats 1000000 in
set_option maxRecDepth 100000 in
theorem next_end (b : Nat) (v : Value) (l : List UInt8) (err : Nat) (w : World) (h : RdAt w b v l l.length err) :
    Calls Tryz.prog 257 #[.pointer (some ⟨b, 0, none⟩)] w fun e w' => e = .returned (.tuple #[.int .u8 0, .int .i64 10]) ∧ ∃ q, w' = w.drewN q := by
  have HL := Lib.hid (left_any b v l _ err w h)
  have h0 : (((l.length : Int) - (l.length : Int)) == 0) = true := by simp
  clear h
  go_enter Tryz.func257, Tryz.ntmps257
  go_wp2_with (go_at_call 252; refine HL.out.mono ?_; rintro e w1 ⟨rfl, q, rfl⟩)
  go_ret2
  exact ⟨rfl, _, rfl⟩
set_option maxHeartbeats 1000000 in
set_option maxRecDepth 100000 in
theorem next_one (b : Nat) (v : Value) (l : List UInt8) (i err : Nat) (w : World) (h : RdAt w b v l i err) (hi : i < l.length) :
    Calls Tryz.prog 257 #[.pointer (some ⟨b, 0, none⟩)] w fun e w' => e = .returned (.tuple #[.int .u8 (l[i].toNat : Int), .int .i64 0]) ∧ ∃ q, w' = (w.drewN q).setCell ⟨b, 1, none⟩ (.int .i64 ((i + 1 : Nat) : Int)) := by
  have HL := Lib.hid (left_any b v l _ err w h)
  have c0 := h.c0
  have c1 := h.c1
  have hle := h.le
  have hsm := h.small
  have f1 := h.free 1
  obtain ⟨g, c, rfl, hcell⟩ := row_at h.row i hi
  have h0 : (((l.length : Int) - (i : Int)) == 0) = false := beq_eq_false_iff_ne.2 (by omega)
  have hiz : (i : Int) < (l.length : Int) := by omega
  obtain ⟨x, hx⟩ : ∃ x, x = l[i] := ⟨_, rfl⟩
  rw [← hx] at hcell ⊢
  clear h hx
  go_enter Tryz.func257, Tryz.ntmps257
  go_wp2_with (go_at_call 252; refine HL.out.mono ?_; rintro e w1 ⟨rfl, q, rfl⟩)
  go_quiet (fail)
  go_wp2
  go_ret2
  exact ⟨rfl, _, rfl⟩

/-- What the inner reading of a number says. -/
def NumPost (b : Nat) (v : Value) (l : List UInt8) (i err : Nat) (R : Nat × Nat × Nat) (w : World) (e : Ending) (w' : World) : Prop :=
  e = .returned (.tuple #[.int .u64 R.2.1, .int .i64 R.1]) ∧ Only (fun k => k = b) w w' ∧ ∃ j, RdAt w' b v l j err ∧ (R.1 = 0 → j = i + R.2.2)
def Byte (b : Nat) (v : Value) (l : List UInt8) (i err : Nat) (x : UInt8) (w : World) (e : Ending) (w' : World) : Prop :=
  e = .returned (.tuple #[.int .u8 (x.toNat : Int), .int .i64 0]) ∧ RdAt w' b v l (i + 1) err ∧ Only (fun k => k = b) w w'
theorem next_byte (b : Nat) (v : Value) (l : List UInt8) (i err : Nat) (w : World) (h : RdAt w b v l i err) (hi : i < l.length) :
    Calls Tryz.prog 257 #[.pointer (some ⟨b, 0, none⟩)] w (Byte b v l i err l[i] w) :=
  (next_one b v l i err w h hi).mono fun e w' ⟨he, q, hw⟩ => by
    subst hw
    exact ⟨he, (h.drewN q).setAt (i + 1) (by omega), ((Only.refl (fun k => k = b) w).drewN q).setCell (p := ⟨b, 1, none⟩) rfl _⟩
theorem drop_at (l : List UInt8) (i : Nat) (h : i < l.length) : l.drop i = l[i] :: l.drop (i + 1) := List.drop_eq_getElem_cons h

theorem numFrom_bad {k acc : Nat} {x : UInt8} {t : List UInt8} (h : (0 < k ∧ x.toNat = 0) ∨ (k = 9 ∧ 1 < x.toNat)) : numFrom k acc (x :: t) = (11, 0, k + 1) := by
  unfold numFrom; rw [if_pos h]
theorem numFrom_done {k acc : Nat} {x : UInt8} {t : List UInt8} (h : ¬ ((0 < k ∧ x.toNat = 0) ∨ (k = 9 ∧ 1 < x.toNat))) (h1 : x.toNat < 128) : numFrom k acc (x :: t) = (0, acc + x.toNat % 128 * 128 ^ k, k + 1) := by
  unfold numFrom; rw [if_neg h, if_pos h1]
theorem numFrom_more {k acc : Nat} {x : UInt8} {t : List UInt8} (h : ¬ ((0 < k ∧ x.toNat = 0) ∨ (k = 9 ∧ 1 < x.toNat))) (h1 : ¬ x.toNat < 128) : numFrom k acc (x :: t) = numFrom (k + 1) (acc + x.toNat % 128 * 128 ^ k) t := by
  conv => lhs; unfold numFrom
  rw [if_neg h, if_neg h1]
theorem pow_128 (k : Nat) : (2 : Nat) ^ (7 * k) = 128 ^ k := by rw [Nat.pow_mul]
set_option maxRecDepth 100000 in
theorem orv (k acc x : Nat) (hk : k ≤ 9) (hacc : acc < 128 ^ k) (hx : x < 256) (h9 : k = 9 → x ≤ 1) :
    bits .or .u64 (acc : Int) (IntKind.u64.wrap (IntKind.u64.wrap (bits .and .u8 (x : Int) 127) * 2 ^ (7 * k))) = ((acc + x % 128 * 128 ^ k : Nat) : Int) := by
  have e0 : bits .and .u8 (x : Int) 127 = ((x % 128 : Nat) : Int) := by rw [u8_and127 _ (by omega) (by omega)]; omega
  have hm : x % 128 < 128 := Nat.mod_lt _ (by decide)
  have hb : x % 128 * 128 ^ k < 18446744073709551616 := by
    rcases Nat.lt_or_ge k 9 with h | h
    · have h1 : 128 ^ k ≤ 128 ^ 8 := Nat.pow_le_pow_right (by decide) (by omega)
      have h2 : x % 128 * 128 ^ k ≤ 127 * 128 ^ 8 := Nat.mul_le_mul (by omega) h1
      exact Nat.lt_of_le_of_lt h2 (by decide)
    · obtain rfl : k = 9 := by omega
      have := h9 rfl
      have h2 : x % 128 * 128 ^ 9 ≤ 1 * 128 ^ 9 := Nat.mul_le_mul (by omega) (Nat.le_refl _)
      exact Nat.lt_of_le_of_lt h2 (by decide)
  have ha : acc < 18446744073709551616 := by
    have h1 : 128 ^ k ≤ 128 ^ 9 := Nat.pow_le_pow_right (by decide) hk
    exact Nat.lt_of_lt_of_le hacc (Nat.le_trans h1 (by decide))
  have e1 : IntKind.u64.wrap (IntKind.u64.wrap ((x % 128 : Nat) : Int) * 2 ^ (7 * k)) = ((x % 128 * 128 ^ k : Nat) : Int) := by
    have e2 : ((2 : Int) ^ (7 * k)) = ((128 ^ k : Nat) : Int) := by rw [← pow_128]; simp
    rw [e2, IntKind.wrap_u64, IntKind.wrap_u64]
    have e3 : ((x % 128 : Nat) : Int) % 18446744073709551616 = ((x % 128 : Nat) : Int) := by omega
    rw [e3, ← Int.natCast_mul]
    omega
  rw [e0, e1]
  have e4 : ((2 : Int) ^ (7 * k)) = ((128 ^ k : Nat) : Int) := by rw [← pow_128]; simp
  have hj := bits_join_low .u64 64 (by decide) wraps_u64 (7 * k) (acc : Int) ((x % 128 * 128 ^ k : Nat) : Int) (by omega) (by rw [e4]; omega) (by omega) (by omega) (by rw [e4, ← Int.natCast_emod, Nat.mul_mod_left]; rfl) (by omega)
  rw [hj]
  omega
theorem orv_lt (k acc x : Nat) (hacc : acc < 128 ^ k) : acc + x % 128 * 128 ^ k < 128 ^ (k + 1) := by
  have hm : x % 128 < 128 := Nat.mod_lt _ (by decide)
  have h2 : x % 128 * 128 ^ k ≤ 127 * 128 ^ k := Nat.mul_le_mul (by omega) (Nat.le_refl _)
  rw [Nat.pow_succ]
  omega
theorem ret_pair {k k' : IntKind} {a a' b b' : Int} (h : a = a') (h' : b = b') : Ending.returned (.tuple #[.int k a, .int k' b]) = .returned (.tuple #[.int k a', .int k' b']) := by rw [h, h']

set_option maxHeartbeats 4000000 in
set_option maxRecDepth 100000 in
theorem number_any (b : Nat) (v : Value) (l : List UInt8) (i err : Nat) (w : World) (h : RdAt w b v l i err) :
    Calls Tryz.prog 251 #[.pointer (some ⟨b, 0, none⟩)] w (NumPost b v l i err (numFrom 0 0 (l.drop i)) w) := by
  obtain ⟨R, hR⟩ : ∃ R, R = numFrom 0 0 (l.drop i) := ⟨_, rfl⟩
  rw [← hR]
  have HR := Lib.hid hR
  clear hR
  go_enter Tryz.func251, Tryz.ntmps251
  go_wp2
  go_loopw [4, 8] (fun va vi wr => ∃ (k acc : Nat), vi = .int .i64 k ∧ va = .int .u64 acc ∧ k ≤ 9 ∧ acc < 128 ^ k ∧ RdAt wr b v l (i + k) err ∧ Only (fun k => k = b) w wr ∧ numFrom k acc (l.drop (i + k)) = R) (fun _ vi _ => 10 - (intOf vi).toNat)
  case atStart => exact ⟨0, 0, rfl, rfl, by omega, by simp, h, Only.refl _ _, HR.out.symm⟩
  case round =>
    obtain ⟨k, acc, rfl, rfl, hk, hacc, hrd, hon, hnum⟩ := hrel
    have HA := Lib.hid hacc
    have HM := Lib.hid hnum
    clear hacc hnum h
    have hle := hrd.le
    by_cases hend : i + k = l.length
    · have HE := Lib.hid (next_end b v l err wr (hend ▸ hrd))
      have hR := HM.out
      rw [hend, List.drop_length] at hR
      clear hend
      have HR2 := Lib.hid hR
      clear hR
      go_wp2_with (go_at_call 257; refine HE.out.mono ?_; rintro e w1 ⟨rfl, q, rfl⟩)
      go_ret2
      refine ⟨?_, hon.drewN q, _, hrd.drewN q, ?_⟩
      · rw [← HR2.out]; rfl
      · intro h0; rw [← HR2.out] at h0; cases h0
    · have hlt : i + k < l.length := by omega
      have HE := Lib.hid (next_byte b v l (i + k) err wr hrd hlt)
      have hR := HM.out
      rw [drop_at l (i + k) hlt] at hR
      obtain ⟨x, hx⟩ : ∃ x, x = l[i + k] := ⟨_, rfl⟩
      rw [← hx] at hR HE
      have hx8 : x.toNat < 256 := x.toNat_lt
      clear hend hx
      have HR2 := Lib.hid hR
      clear hR
      go_wp2_with (go_at_call 257; refine HE.out.mono ?_; rintro e w1 ⟨rfl, hrd1, hon1⟩)
      all_goals have hon2 := hon.trans hon1
      · go_ret2
        have h1 : 0 < k := by assumption
        have h2 : x.toNat = 0 := by assumption
        have e := HR2.out
        rw [numFrom_bad (.inl ⟨h1, h2⟩)] at e
        exact ⟨by rw [← e]; rfl, hon2, _, hrd1, fun h0 => by rw [← e] at h0; cases h0⟩
      · go_ret2
        have hk9 : (k : Int) = 9 := by assumption
        have h2 : ¬ x.toNat = 0 := by assumption
        have h3 : ((x.toNat : Int) == 0) = true ∨ (1 : Int) < (x.toNat : Int) := by assumption
        have h4 : 1 < x.toNat := by
          rcases h3 with h3 | h3
          · rw [beq_iff_eq] at h3; omega
          · omega
        have e := HR2.out
        rw [numFrom_bad (.inr ⟨by omega, h4⟩)] at e
        exact ⟨by rw [← e]; rfl, hon2, _, hrd1, fun h0 => by rw [← e] at h0; cases h0⟩
      · go_ret2
        have hk9 : (k : Int) = 9 := by assumption
        have h2 : ¬ x.toNat = 0 := by assumption
        have h3 : ((x.toNat : Int) == 0) = false ∧ (x.toNat : Int) ≤ 1 := by assumption
        obtain rfl : k = 9 := by omega
        have e := HR2.out
        rw [numFrom_done (by omega) (by omega)] at e
        have ho := orv 9 acc x.toNat (by omega) HA.out hx8 (fun _ => by omega)
        rw [show (2 : Int) ^ (7 * 9) = 9223372036854775808 from by decide] at ho
        exact ⟨by rw [← e]; exact ret_pair ho rfl, hon2, _, hrd1, fun _ => by rw [← e]; exact Nat.add_assoc _ _ _⟩
      · go_ret2
        have h1 : 0 < k := by assumption
        have hk9 : ¬ (k : Int) = 9 := by assumption
        have h2 : ¬ x.toNat = 0 := by assumption
        have h3 : (x.toNat : Int) < 128 := by assumption
        have e := HR2.out
        rw [numFrom_done (by omega) (by omega)] at e
        have ho := orv k acc x.toNat (by omega) HA.out hx8 (fun _ => by omega)
        exact ⟨by rw [← e]; exact ret_pair ho rfl, hon2, _, hrd1, fun _ => by rw [← e]; exact Nat.add_assoc _ _ _⟩
      · have h1 : 0 < k := by assumption
        have hk9 : ¬ (k : Int) = 9 := by assumption
        have h2 : ¬ x.toNat = 0 := by assumption
        have h3 : (128 : Int) ≤ (x.toNat : Int) := by assumption
        have e := HR2.out
        rw [numFrom_more (by omega) (by omega)] at e
        have ho := orv k acc x.toNat (by omega) HA.out hx8 (fun _ => by omega)
        go_roundw
        case rel => exact ⟨k + 1, _, by go_num, by rw [ho], by omega, orv_lt k acc x.toNat HA.out, by rw [← Nat.add_assoc]; exact hrd1, hon2, by rw [← Nat.add_assoc]; exact e⟩
        case measure => simp [intOf]; omega
      · go_ret2
        have h1 : ¬ 0 < k := by assumption
        have h3 : (x.toNat : Int) < 128 := by assumption
        have e := HR2.out
        rw [numFrom_done (by omega) (by omega)] at e
        have ho := orv k acc x.toNat (by omega) HA.out hx8 (fun _ => by omega)
        exact ⟨by rw [← e]; exact ret_pair ho rfl, hon2, _, hrd1, fun _ => by rw [← e]; exact Nat.add_assoc _ _ _⟩
      · have h1 : ¬ 0 < k := by assumption
        have h3 : (128 : Int) ≤ (x.toNat : Int) := by assumption
        have e := HR2.out
        rw [numFrom_more (by omega) (by omega)] at e
        have ho := orv k acc x.toNat (by omega) HA.out hx8 (fun _ => by omega)
        go_roundw
        case rel => exact ⟨k + 1, _, by go_num, by rw [ho], by omega, orv_lt k acc x.toNat HA.out, by rw [← Nat.add_assoc]; exact hrd1, hon2, by rw [← Nat.add_assoc]; exact e⟩
        case measure => simp [intOf]; omega
end Go.Proofs.YtpincofjopmaaaaGreatDoor
namespace Go.Proofs.YtpincofjopmaaaaGreatDoor
open Go.RowKit
/-- A reader behind a call that answers x. -/
def Got (b : Nat) (v : Value) (l : List UInt8) (i err : Nat) (x : Value) (w : World) (e : Ending) (w' : World) : Prop :=
  e = .returned x ∧ Only (fun k => k = b) w w' ∧ RdAt w' b v l i err

set_option maxHeartbeats 1000000 in
set_option maxRecDepth 100000 in
theorem read_any (sv : Value) (l : List UInt8) (w : World) (hs : SrcIs w sv l) (hlim : l.length ≤ 140737488355328) :
    Calls Tryz.prog 96 #[sv] w fun e w' => ∃ b v, e = .returned (.pointer (some ⟨b, 0, none⟩)) ∧ Below w.heap.size w w' ∧ RdAt w' b v l 0 0 ∧ w.heap.size ≤ b ∧ (∀ g, v.ownBlock = some g → w.heap.size ≤ g) := by
  have HC := Lib.hid (clone_any sv l w hs hlim)
  clear hs
  go_enter Tryz.func96, Tryz.ntmps96
  go_wp2_with (go_at_call 158; refine HC.out.mono ?_; rintro e w1 ⟨v1, rfl, hr, hb, hv⟩; obtain ⟨ao, m, c, rfl⟩ := row_shape hr)
  go_ret
  exact ⟨w1.heap.size, _, rfl, hb.alloc hb.size _, ⟨heap_alloc_new w1 _, hr.alloc _, Nat.zero_le _, hlim⟩, hb.size, hv⟩

set_option maxHeartbeats 1000000 in
set_option maxRecDepth 100000 in
theorem err_ok (b : Nat) (v : Value) (l : List UInt8) (i : Nat) (w : World) (h : RdAt w b v l i 0) :
    Calls Tryz.prog 260 #[.pointer (some ⟨b, 0, none⟩)] w fun e w' => e = .returned (.tuple #[.int .i64 0, .int .i64 0]) ∧ w = w' := by
  have c2 : w.cell? ⟨b, 2, none⟩ = some (.int .i64 0) := h.c2
  clear h
  go_enter Tryz.func260, Tryz.ntmps260
  go_wp2
  go_ret2
  exact ⟨rfl, rfl⟩
set_option maxHeartbeats 1000000 in
set_option maxRecDepth 100000 in
theorem err_bad (b : Nat) (v : Value) (l : List UInt8) (i err : Nat) (w : World) (h : RdAt w b v l i err) (he : err ≠ 0) :
    Calls Tryz.prog 260 #[.pointer (some ⟨b, 0, none⟩)] w fun e w' => e = .returned (.tuple #[.int .i64 i, .int .i64 err]) ∧ ∃ q, w' = w.drewN q := by
  have c2 := h.c2
  have c1 := h.c1
  have hb : ((err : Int) == 0) = false := beq_eq_false_iff_ne.2 (by omega)
  clear h
  go_enter Tryz.func260, Tryz.ntmps260
  go_wp2
  go_quiet (fail)
  go_wp2
  go_ret2
  exact ⟨rfl, _, rfl⟩
set_option maxHeartbeats 1000000 in
set_option maxRecDepth 100000 in
theorem rnum_stop (b : Nat) (v : Value) (l : List UInt8) (i err : Nat) (w : World) (h : RdAt w b v l i err) (he : err ≠ 0) :
    Calls Tryz.prog 219 #[.pointer (some ⟨b, 0, none⟩)] w (Got b v l i err (.int .u64 0) w) := by
  have c2 := h.c2
  have hb : ((err : Int) != 0) = true := by rw [bne_iff_ne]; omega
  have HH := Lib.hid h
  clear h
  go_enter Tryz.func219, Tryz.ntmps219
  go_wp2_with go_in
  go_ret
  exact ⟨rfl, Only.refl _ _, HH.out⟩
set_option maxHeartbeats 1000000 in
set_option maxRecDepth 100000 in
theorem rnum_ok (b : Nat) (v : Value) (l : List UInt8) (i V K : Nat) (w : World) (h : RdAt w b v l i 0) (hR : numFrom 0 0 (l.drop i) = (0, V, K)) :
    Calls Tryz.prog 219 #[.pointer (some ⟨b, 0, none⟩)] w (Got b v l (i + K) 0 (.int .u64 V) w) := by
  have c2 : w.cell? ⟨b, 2, none⟩ = some (.int .i64 0) := h.c2
  have c1 := h.c1
  have hn := number_any b v l i 0 w h
  rw [hR] at hn
  have HN := Lib.hid hn
  clear h hn hR
  go_enter Tryz.func219, Tryz.ntmps219
  go_wp2_with (first | (go_at_call 251; refine HN.out.mono ?_; rintro e w1 ⟨rfl, hon, j, hrd, hj⟩; obtain rfl := hj rfl) | go_in)
  go_ret
  exact ⟨rfl, hon, hrd⟩

theorem numFrom_lt : ∀ (t : List UInt8) (k acc : Nat), k ≤ 9 → acc < 128 ^ k → (numFrom k acc t).2.1 < 18446744073709551616
  | [], k, acc, _, _ => by simp [numFrom]
  | x :: t, k, acc, hk, ha => by
    by_cases h1 : (0 < k ∧ x.toNat = 0) ∨ (k = 9 ∧ 1 < x.toNat)
    · rw [numFrom_bad h1]; exact (by decide : (0 : Nat) < 18446744073709551616)
    · by_cases h2 : x.toNat < 128
      · rw [numFrom_done h1 h2]
        show acc + x.toNat % 128 * 128 ^ k < _
        by_cases h9 : k = 9
        · subst h9
          have h3 : x.toNat % 128 * 128 ^ 9 ≤ 1 * 128 ^ 9 := Nat.mul_le_mul (by omega) (Nat.le_refl _)
          have h4 : acc + x.toNat % 128 * 128 ^ 9 < 128 ^ 9 + 1 * 128 ^ 9 := Nat.add_lt_add_of_lt_of_le ha h3
          exact Nat.lt_of_lt_of_le h4 (by decide)
        · have h3 := orv_lt k acc x.toNat ha
          have h4 : 128 ^ (k + 1) ≤ 128 ^ 9 := Nat.pow_le_pow_right (by decide) (by omega)
          exact Nat.lt_of_lt_of_le h3 (Nat.le_trans h4 (by decide))
      · rw [numFrom_more h1 h2]
        exact numFrom_lt t (k + 1) _ (by have := x.toNat_lt; omega) (orv_lt k acc x.toNat ha)
theorem num_lt {l : List UInt8} {E V K : Nat} (h : numFrom 0 0 l = (E, V, K)) : V < 18446744073709551616 := by
  have := numFrom_lt l 0 0 (by omega) (by decide)
  rw [h] at this
  exact this
theorem numFrom_err : ∀ (t : List UInt8) (k acc : Nat), (numFrom k acc t).1 ≠ 0 → (numFrom k acc t).2.1 = 0
  | [], k, acc, _ => by simp [numFrom]
  | x :: t, k, acc, he => by
    by_cases h1 : (0 < k ∧ x.toNat = 0) ∨ (k = 9 ∧ 1 < x.toNat)
    · rw [numFrom_bad h1]
    · by_cases h2 : x.toNat < 128
      · rw [numFrom_done h1 h2] at he; exact absurd rfl he
      · rw [numFrom_more h1 h2] at he ⊢
        exact numFrom_err t (k + 1) _ he
theorem num_err {l : List UInt8} {E V K : Nat} (h : numFrom 0 0 l = (E, V, K)) (hE : E ≠ 0) : V = 0 := by
  have := numFrom_err l 0 0
  rw [h] at this
  exact this hE
theorem RdAt.alloc {w : World} {b : Nat} {v : Value} {l : List UInt8} {i err : Nat} (h : RdAt w b v l i err) (o : Obj) : RdAt (w.alloc o) b v l i err :=
  h.keep ((Only.refl (fun _ => False) w).alloc o) id (fun _ _ => id)
/-- What an item that fails leaves. -/
theorem RdAt.failed {w0 w : World} {b : Nat} {v : Value} {l : List UInt8} {j : Nat} (h : RdAt w b v l j 0) (ho : Only (fun k => k = b) w0 w) (i E : Nat) (hi : i ≤ l.length) :
    Only (fun k => k = b) w0 ((w.setCell ⟨b, 1, none⟩ (.int .i64 i)).setCell ⟨b, 2, none⟩ (.int .i64 E)) ∧ RdAt ((w.setCell ⟨b, 1, none⟩ (.int .i64 i)).setCell ⟨b, 2, none⟩ (.int .i64 E)) b v l i E :=
  ⟨(ho.setCell (p := ⟨b, 1, none⟩) rfl _).setCell (p := ⟨b, 2, none⟩) rfl _, (h.setAt i hi).setErr E⟩
set_option maxHeartbeats 1000000 in
set_option maxRecDepth 100000 in
theorem rnum_bad (b : Nat) (v : Value) (l : List UInt8) (i E V K : Nat) (w : World) (h : RdAt w b v l i 0) (hR : numFrom 0 0 (l.drop i) = (E, V, K)) (hE : E ≠ 0) :
    Calls Tryz.prog 219 #[.pointer (some ⟨b, 0, none⟩)] w (Got b v l i E (.int .u64 0) w) := by
  have c2 : w.cell? ⟨b, 2, none⟩ = some (.int .i64 0) := h.c2
  have c1 := h.c1
  have hle := h.le
  have hn := number_any b v l i 0 w h
  rw [hR] at hn
  have HN := Lib.hid hn
  have hb : ((E : Int) != 0) = true := by rw [bne_iff_ne]; omega
  clear h hn hR
  go_enter Tryz.func219, Tryz.ntmps219
  go_wp2_with (first | (go_at_call 251; refine HN.out.mono ?_; rintro e w1 ⟨rfl, hon, j, hrd, _⟩; have d1 := hrd.c1; have d2 := hrd.c2; have f1 := hrd.free 1; have f2 := hrd.free 2) | go_in)
  go_ret
  obtain ⟨h1, h2⟩ := hrd.failed hon i E hle
  exact ⟨rfl, h1, h2⟩

set_option maxHeartbeats 1000000 in
set_option maxRecDepth 100000 in
theorem rint_stop (b : Nat) (v : Value) (l : List UInt8) (i err : Nat) (w : World) (h : RdAt w b v l i err) (he : err ≠ 0) :
    Calls Tryz.prog 277 #[.pointer (some ⟨b, 0, none⟩)] w (Got b v l i err (.int .i64 0) w) := by
  have hlt := lt_of_block h.blk
  have c2 : (w.alloc (.cells #[.pointer (some ⟨b, 0, none⟩)] 127)).cell? ⟨b, 2, none⟩ = some (.int .i64 err) := (h.alloc _).c2
  have hb : ((err : Int) != 0) = true := by rw [bne_iff_ne]; omega
  have HH := Lib.hid h
  clear h
  go_enter Tryz.func277, Tryz.ntmps277
  go_wp2_with go_in
  go_ret
  exact ⟨rfl, (Only.refl _ _).alloc _, HH.out.alloc _⟩
set_option maxHeartbeats 1000000 in
set_option maxRecDepth 100000 in
theorem rint_ok (b : Nat) (v : Value) (l : List UInt8) (i V K : Nat) (w : World) (h : RdAt w b v l i 0) (hR : numFrom 0 0 (l.drop i) = (0, V, K)) :
    Calls Tryz.prog 277 #[.pointer (some ⟨b, 0, none⟩)] w (Got b v l (i + K) 0 (.int .i64 (zag V)) w) := by
  have hlt := lt_of_block h.blk
  have hal := h.alloc (.cells #[.pointer (some ⟨b, 0, none⟩)] 127)
  have c2 : (w.alloc (.cells #[.pointer (some ⟨b, 0, none⟩)] 127)).cell? ⟨b, 2, none⟩ = some (.int .i64 0) := hal.c2
  have c1 := hal.c1
  have hn := number_any b v l i 0 _ hal
  rw [hR] at hn
  have HN := Lib.hid hn
  have HV := Lib.hid (num_lt hR)
  clear h hn hR hal
  go_enter Tryz.func277, Tryz.ntmps277
  go_wp2_with (first | (go_at_call 251; refine HN.out.mono ?_; rintro e w1 ⟨rfl, hon, j, hrd, hj⟩; obtain rfl := hj rfl) | (go_at_call 288; refine (zag_any _ _ HV.out).mono ?_; rintro e w2 ⟨rfl, rfl⟩) | go_in)
  go_ret
  exact ⟨rfl, ((Only.refl _ _).alloc _).trans hon, hrd⟩
set_option maxHeartbeats 1000000 in
set_option maxRecDepth 100000 in
theorem rint_bad (b : Nat) (v : Value) (l : List UInt8) (i E V K : Nat) (w : World) (h : RdAt w b v l i 0) (hR : numFrom 0 0 (l.drop i) = (E, V, K)) (hE : E ≠ 0) :
    Calls Tryz.prog 277 #[.pointer (some ⟨b, 0, none⟩)] w (Got b v l i E (.int .i64 0) w) := by
  have hlt := lt_of_block h.blk
  have hal := h.alloc (.cells #[.pointer (some ⟨b, 0, none⟩)] 127)
  have c2 : (w.alloc (.cells #[.pointer (some ⟨b, 0, none⟩)] 127)).cell? ⟨b, 2, none⟩ = some (.int .i64 0) := hal.c2
  have c1 := hal.c1
  have hle := h.le
  have hn := number_any b v l i 0 _ hal
  rw [hR] at hn
  have HN := Lib.hid hn
  have HV := Lib.hid (num_lt hR)
  have hb : ((E : Int) != 0) = true := by rw [bne_iff_ne]; omega
  clear h hn hR hal
  go_enter Tryz.func277, Tryz.ntmps277
  go_wp2_with (first | (go_at_call 251; refine HN.out.mono ?_; rintro e w1 ⟨rfl, hon, j, hrd, _⟩; have d1 := hrd.c1; have d2 := hrd.c2; have f1 := hrd.free 1; have f2 := hrd.free 2) | (go_at_call 288; refine (zag_any _ _ HV.out).mono ?_; rintro e w2 ⟨rfl, rfl⟩) | go_in)
  go_ret
  obtain ⟨h1, h2⟩ := hrd.failed (((Only.refl _ _).alloc _).trans hon) i E hle
  exact ⟨rfl, h1, h2⟩

set_option maxHeartbeats 1000000 in
set_option maxRecDepth 100000 in
theorem rflag_stop (b : Nat) (v : Value) (l : List UInt8) (i err : Nat) (w : World) (h : RdAt w b v l i err) (he : err ≠ 0) :
    Calls Tryz.prog 151 #[.pointer (some ⟨b, 0, none⟩)] w (Got b v l i err (.bool false) w) := by
  have c2 := h.c2
  have hb : ((err : Int) != 0) = true := by rw [bne_iff_ne]; omega
  have HH := Lib.hid h
  clear h
  go_enter Tryz.func151, Tryz.ntmps151
  go_wp2_with go_in
  go_ret
  exact ⟨rfl, Only.refl _ _, HH.out⟩
set_option maxHeartbeats 1000000 in
set_option maxRecDepth 100000 in
theorem rflag_ok (b : Nat) (v : Value) (l : List UInt8) (i : Nat) (f : Bool) (w : World) (h : RdAt w b v l i 0) (hi : i < l.length) (hf : l[i] = flagByte f) :
    Calls Tryz.prog 151 #[.pointer (some ⟨b, 0, none⟩)] w (Got b v l (i + 1) 0 (.bool f) w) := by
  have c2 : w.cell? ⟨b, 2, none⟩ = some (.int .i64 0) := h.c2
  have c1 := h.c1
  have hn := next_byte b v l i 0 w h hi
  rw [hf] at hn
  have HN := Lib.hid hn
  clear h hn hf
  cases f
  all_goals
    go_enter Tryz.func151, Tryz.ntmps151
    go_wp2_with (first | (go_at_call 257; refine HN.out.mono ?_; rintro e w1 ⟨rfl, hrd, hon⟩; rw [show ∀ f, ((flagByte f).toNat : Int) = if f then 1 else 0 from by decide]) | go_in)
    go_ret
    exact ⟨rfl, hon, hrd⟩
set_option maxHeartbeats 1000000 in
set_option maxRecDepth 100000 in
theorem rflag_short (b : Nat) (v : Value) (l : List UInt8) (w : World) (h : RdAt w b v l l.length 0) :
    Calls Tryz.prog 151 #[.pointer (some ⟨b, 0, none⟩)] w (Got b v l l.length 10 (.bool false) w) := by
  have c2 : w.cell? ⟨b, 2, none⟩ = some (.int .i64 0) := h.c2
  have c1 := h.c1
  have f1 := h.free 1
  have f2 := h.free 2
  have HN := Lib.hid (next_end b v l 0 w h)
  have HH := Lib.hid h
  clear h
  go_enter Tryz.func151, Tryz.ntmps151
  go_wp2_with (first | (go_at_call 257; refine HN.out.mono ?_; rintro e w1 ⟨rfl, q, rfl⟩) | go_in)
  go_ret
  obtain ⟨h1, h2⟩ := (HH.out.drewN q).failed ((Only.refl _ _).drewN q) l.length 10 (Nat.le_refl _)
  exact ⟨rfl, h1, h2⟩
set_option maxHeartbeats 1000000 in
set_option maxRecDepth 100000 in
theorem rflag_form (b : Nat) (v : Value) (l : List UInt8) (i : Nat) (w : World) (h : RdAt w b v l i 0) (hi : i < l.length) (hf : 1 < l[i].toNat) :
    Calls Tryz.prog 151 #[.pointer (some ⟨b, 0, none⟩)] w (Got b v l i 11 (.bool false) w) := by
  have c2 : w.cell? ⟨b, 2, none⟩ = some (.int .i64 0) := h.c2
  have c1 := h.c1
  have hle := h.le
  have HN := Lib.hid (next_byte b v l i 0 w h hi)
  obtain ⟨x, hx⟩ : ∃ x, x = l[i] := ⟨_, rfl⟩
  rw [← hx] at hf HN
  have hx8 := x.toNat_lt
  have hz : (1 : Int) < (x.toNat : Int) := by omega
  clear h hx
  go_enter Tryz.func151, Tryz.ntmps151
  go_wp2_with (first | (go_at_call 257; refine HN.out.mono ?_; rintro e w1 ⟨rfl, hrd, hon⟩; have d1 := hrd.c1; have d2 := hrd.c2; have f1 := hrd.free 1; have f2 := hrd.free 2) | go_in)
  go_ret
  obtain ⟨h1, h2⟩ := hrd.failed hon i 11 hle
  exact ⟨rfl, h1, h2⟩
end Go.Proofs.YtpincofjopmaaaaGreatDoor
namespace Go.Proofs.YtpincofjopmaaaaGreatDoor
open Go.Shelf
def laysRen : Go.Shelf.Ren := ⟨fun | 196 => 253 | 259 => 275 | n => n, fun | 9 => 9 | 4 => 4 | 3 => 3 | 5 => 5 | 12 => 12 | 119 => 268 | 0 => 0 | 46 => 272 | 139 => 271 | 138 => 270 | 53 => 213 | n => n, fun | 3 => 2 | 4 => 3 | n => n⟩
theorem laysValid : Lays.n196 Tryz.prog laysRen := {
  mixed := by kernel_rfl
  f196 := Tryz.func253.trans (congrArg some (by kernel_rfl))
  f259 := Tryz.func275.trans (congrArg some (by kernel_rfl))
  t0 := Tryz.underlying0
  a0 := Tryz.isAgg0
  z0 := Tryz.sizeOf0
  v0 := Tryz.zeroValue0
  t3 := Tryz.underlying3
  a3 := Tryz.isAgg3
  z3 := Tryz.sizeOf3
  v3 := Tryz.zeroValue3
  t4 := Tryz.underlying4
  a4 := Tryz.isAgg4
  z4 := Tryz.sizeOf4
  v4 := Tryz.zeroValue4
  t5 := Tryz.underlying5
  a5 := Tryz.isAgg5
  z5 := Tryz.sizeOf5
  v5 := Tryz.zeroValue5
  t9 := Tryz.underlying9
  a9 := Tryz.isAgg9
  z9 := Tryz.sizeOf9
  v9 := Tryz.zeroValue9
  t12 := Tryz.underlying12
  a12 := Tryz.isAgg12
  z12 := Tryz.sizeOf12
  v12 := Tryz.zeroValue12
  t46 := Tryz.underlying272
  a46 := Tryz.isAgg272
  z46 := Tryz.sizeOf272
  v46 := Tryz.zeroValue272
  t53 := Tryz.underlying213
  a53 := Tryz.isAgg213
  z53 := Tryz.sizeOf213
  v53 := Tryz.zeroValue213
  t119 := Tryz.underlying268
  a119 := Tryz.isAgg268
  z119 := Tryz.sizeOf268
  t138 := Tryz.underlying270
  a138 := Tryz.isAgg270
  z138 := Tryz.sizeOf270
  v138 := Tryz.zeroValue270
  t139 := Tryz.underlying271
  a139 := Tryz.isAgg271
  z139 := Tryz.sizeOf271
  v139 := Tryz.zeroValue271
  g3 := by kernel_rfl
  g4 := by kernel_rfl }
end Go.Proofs.YtpincofjopmaaaaGreatDoor
