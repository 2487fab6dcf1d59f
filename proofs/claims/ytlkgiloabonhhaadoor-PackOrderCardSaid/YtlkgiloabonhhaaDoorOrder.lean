/-
  PackOrder's contract: it answers true at any two numbers, and writes nothing that was there.
  Conditions: unicode/utf8's two tables hold what they hold at the start.
-/
import Derived.Test.YtlkgiloabonhhaaDoorAwake
namespace Go.Proofs.YtlkgiloabonhhaaDoor
open Go.RowKit
theorem neg_one (b : Int) (h0 : -9223372036854775808 ≤ b) (h1 : b ≤ 9223372036854775807) : wrap64 (wrap64 (-b) - 1) = -b - 1 := by
  unfold wrap64
  omega
theorem ret_bool {p q : Bool} (h : p = q) : Ending.returned (.bool p) = .returned (.bool q) := by rw [h]
set_option maxHeartbeats 4000000 in
set_option maxRecDepth 100000 in
theorem order_any (a b : Int) (w : World) (hT : Tabs w) (ha : -9223372036854775808 ≤ a ∧ a ≤ 9223372036854775807) (hb : -9223372036854775808 ≤ b ∧ b ≤ 9223372036854775807) :
    Calls Tryd.prog 4 #[.int .i64 a, .int .i64 b] w fun e w' => e = .returned (.bool true) ∧ Below w.heap.size w w' := by
  have HA := Lib.hid (awake_any w hT)
  have HZa := Lib.hid (zig_any a w ha.1 ha.2)
  have HZb := Lib.hid (zig_any b w hb.1 hb.2)
  obtain ⟨x, hx⟩ : ∃ x, x = Lib.zigzag a := ⟨_, rfl⟩
  obtain ⟨y, hy⟩ : ∃ y, y = Lib.zigzag b := ⟨_, rfl⟩
  rw [← hx] at HZa
  rw [← hy] at HZb
  have hx64 : x < 18446744073709551616 := by rw [hx]; exact Lib.zigzag_lt ha.1 ha.2
  have hy64 : y < 18446744073709551616 := by rw [hy]; exact Lib.zigzag_lt hb.1 hb.2
  have ax := zag_zigzag a
  rw [← hx] at ax
  have ay := zag_zigzag b
  rw [← hy] at ay
  obtain ⟨ha0, ha1⟩ := ha
  obtain ⟨hb0, hb1⟩ := hb
  clear hx hy hT
  unfold zag at ax ay
  have e1 : (((x : Int) == (y : Int)) == (a == b)) = true := by
    rw [beq_iff_eq, Bool.eq_iff_iff, beq_iff_eq, beq_iff_eq]
    split at ax <;> split at ay <;> omega
  have e3 : (decide (a < 0) == ((x : Int) % 2 == 1)) = true := by
    rw [beq_iff_eq, Bool.eq_iff_iff, decide_eq_true_iff, beq_iff_eq]
    split at ax <;> omega
  have e2 : ((x : Int) / 2 != (y : Int) / 2) = true ∨ (a == b) = true ∨ (a == -b - 1) = true := by
    rw [bne_iff_ne, beq_iff_eq, beq_iff_eq]
    split at ax <;> split at ay <;> omega
  have E2 := Lib.hid e2
  have E3 := Lib.hid e3
  clear ax ay e2 e3
  go_enter Tryd.func4, Tryd.ntmps4
  go_wp2_with fail
  refine HZa.out.mono ?_
  rintro e w1 ⟨rfl, rfl⟩
  go_wp2_with fail
  refine HZb.out.mono ?_
  rintro e w2 ⟨rfl, rfl⟩
  go_wp2_with fail
  refine HA.out.mono ?_
  rintro e w3 ⟨rfl, hbel⟩
  go_wp2
  · go_ret
    have h : a = b := by assumption
    exact ⟨ret_bool (by rw [← h]; exact E3.out), hbel⟩
  · go_ret
    have h : a = wrap64 (wrap64 (-b) - 1) := by assumption
    exact ⟨ret_bool (by rw [← h]; exact E3.out), hbel⟩
  · exfalso
    have h1 : (x : Int) / 2 = (y : Int) / 2 := by assumption
    have h2 : ¬ a = b := by assumption
    have h3 : ¬ a = wrap64 (wrap64 (-b) - 1) := by assumption
    rw [neg_one b hb0 hb1] at h3
    rcases E2.out with h | h | h
    · rw [bne_iff_ne] at h; exact h h1
    · rw [beq_iff_eq] at h; exact h2 h
    · rw [beq_iff_eq] at h; exact h3 h
  · go_ret
    exact ⟨ret_bool E3.out, hbel⟩
end Go.Proofs.YtlkgiloabonhhaaDoor
