/-
  PackZigs's contract: it answers true at any numbers, and writes nothing that was there, in whatever order Go evaluates its one expression.
  Conditions: unicode/utf8's two tables hold what they hold at the start.
-/
import Derived.Test.YtlkgiloabonhhaaDoorAwake
import Derived.Deep.RegionWith
namespace Go.Proofs.YtlkgiloabonhhaaDoor
open Go.RowKit
set_option maxHeartbeats 8000000 in
set_option maxRecDepth 100000 in
theorem zigs_any (n : Int) (v : Nat) (w : World) (hT : Tabs w) (h0 : -9223372036854775808 ≤ n) (h1 : n ≤ 9223372036854775807) (hv : v < 18446744073709551616) :
    Calls Tryd.prog 3 #[.int .i64 n, .int .u64 v] w fun e w' => e = .returned (.bool true) ∧ Below w.heap.size w w' := by
  obtain ⟨x, hx⟩ : ∃ x, x = Lib.zigzag n := ⟨_, rfl⟩
  obtain ⟨z, hz⟩ : ∃ z, z = zag v := ⟨_, rfl⟩
  obtain ⟨u, hu⟩ : ∃ u, u = Lib.uvarint v := ⟨_, rfl⟩
  have hx64 : x < 18446744073709551616 := by rw [hx]; exact Lib.zigzag_lt h0 h1
  have hzb := zag_bd v hv
  rw [← hz] at hzb
  have HA : Hid (∀ W, Tabs W → Calls Tryd.prog 11 #[] W fun e w' => e = .returned (.bool true) ∧ Below W.heap.size W w') := fun W h => awake_any W h
  have HZn : Hid (∀ W, Calls Tryd.prog 12 #[.int .i64 n] W fun e w' => e = .returned (.int .u64 x) ∧ W = w') := fun W => by rw [hx]; exact zig_any n W h0 h1
  have HZz : Hid (∀ W, Calls Tryd.prog 12 #[.int .i64 z] W fun e w' => e = .returned (.int .u64 v) ∧ W = w') := fun W => by
    have h := zig_any z W hzb.1 hzb.2
    rw [hz, zigzag_zag, ← hz] at h
    exact h
  have HR : Hid (∀ W, Calls Tryd.prog 13 #[.int .i64 n] W fun e w' => e = .returned (.int .u64 x) ∧ W = w') := fun W => by rw [hx]; exact refzig_any n W h0 h1
  have HGx : Hid (∀ W, Calls Tryd.prog 14 #[.int .u64 x] W fun e w' => e = .returned (.int .i64 n) ∧ W = w') := fun W => by
    have h := zag_any x W hx64
    rw [hx, zag_zigzag, ← hx] at h
    exact h
  have HGv : Hid (∀ W, Calls Tryd.prog 14 #[.int .u64 v] W fun e w' => e = .returned (.int .i64 z) ∧ W = w') := fun W => by rw [hz]; exact zag_any v W hv
  have HV : Hid (∀ W, Calls Tryd.prog 15 #[.int .u64 v] W fun e w' => ∃ v', e = .returned v' ∧ RowIs w' v' u ∧ Below W.heap.size W w') := fun W => by rw [hu]; exact var_any v hv W
  have HRV : Hid (∀ W, Calls Tryd.prog 16 #[.int .u64 v] W fun e w' => e = .returned (.string (S u)) ∧ Below W.heap.size W w') := fun W => by rw [hu]; exact refvar_any v hv W
  have HT := Lib.hid hT
  clear hx hz hu hzb hT
  go_enter Tryd.func3, Tryd.ntmps3
  go_wp2
  go_region_with (first | (go_at_call 11; refine (HA.out _ (by exact HT.out)).mono ?_; rintro e wA ⟨rfl, bA⟩) | (go_at_call_of 12 n; refine (HZn.out _).mono ?_; rintro e w' ⟨rfl, rfl⟩) | (go_at_call_of 12 z; refine (HZz.out _).mono ?_; rintro e w' ⟨rfl, rfl⟩) | (go_at_call 13; refine (HR.out _).mono ?_; rintro e w' ⟨rfl, rfl⟩) | (go_at_call_of 14 x; refine (HGx.out _).mono ?_; rintro e w' ⟨rfl, rfl⟩) | (go_at_call_of 14 v; refine (HGv.out _).mono ?_; rintro e w' ⟨rfl, rfl⟩) | (go_at_call 15; refine (HV.out _).mono ?_; rintro e wV ⟨vV, rfl, rV, bV⟩; have cV := conv_owned rV) | (go_at_call 16; refine (HRV.out _).mono ?_; rintro e wR ⟨rfl, bR⟩; try have cR := conv_owned ((Only.ofBelow (S := fun _ => False) bR).row rV (fun _ _ => id))))
  all_goals go_wp2
  all_goals go_ret
  all_goals
    have bw : Below w.heap.size w wA := (Below.refl w.heap.size w).drew.trans bA
    exact ⟨rfl, (bw.trans (bV.mono bw.size)).trans (bR.mono (Nat.le_trans bw.size bV.size))⟩
end Go.Proofs.YtlkgiloabonhhaaDoor
