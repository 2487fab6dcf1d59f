/-
  FrameSums's contract: it answers true at any two texts, and writes nothing that was there.
  Conditions: none.
-/
import Derived.Test.YtpaadajkfnokjaaFAwake
import Derived.Test.YtpaadajkfnokjaaFRefSum
namespace Go.Proofs.Ytpaadajkfnokjaa
open Go.RowKit
set_option maxHeartbeats 400000 in
set_option maxRecDepth 100000 in
theorem sums_any (s t : List UInt8) (w : World) (hs : s.length ≤ 9223372036854775807) (ht : t.length ≤ 9223372036854775807) :
    Calls Try.prog 3 #[.string (S s), .string (S t)] w fun e w' => e = .returned (.bool true) ∧ Below w.heap.size w w' := by
  have hsz : ((S s).size : Int) = (s.length : Int) := by rw [S_size]
  have htz : ((S t).size : Int) = (t.length : Int) := by rw [S_size]
  have HA := Lib.hid awake_any
  by_cases hbig : 2000 < s.length
  · have hz : (2000 : Int) < (s.length : Int) := by omega
    go_enter Try.func3, Try.ntmps3
    go_wp2_with (go_at_call 10; refine (HA.out _).mono ?_; rintro e w1 ⟨rfl, hb⟩)
    go_ret
    exact ⟨rfl, hb⟩
  have hz : (s.length : Int) ≤ 2000 := by omega
  by_cases hbig2 : 2000 < t.length
  · have hz2 : (2000 : Int) < (t.length : Int) := by omega
    go_enter Try.func3, Try.ntmps3
    go_wp2_with (go_at_call 10; refine (HA.out _).mono ?_; rintro e w1 ⟨rfl, hb⟩)
    go_ret
    exact ⟨rfl, hb⟩
  have hz2 : (t.length : Int) ≤ 2000 := by omega
  have hcv := conv_back s w
  have HS1 := Lib.hid (src_back s w (grownCap w s.length 0 5))
  have HB1 := Lib.hid (below_back s w)
  generalize Lib.bytesWorld w 5 (S s) = w1 at hcv HS1 HB1
  go_enter Try.func3, Try.ntmps3
  go_wp2_with fail
  refine (sum_any s _ w1 HS1.out (by omega)).mono ?_
  rintro e w2 ⟨rfl, hb2⟩
  have B2 := Lib.hid (HB1.out.trans (hb2.mono HB1.out.size))
  clear hcv HS1 HB1 hb2
  go_wp2_with fail
  refine (HA.out w2).mono ?_
  rintro e w3 ⟨rfl, hb3⟩
  have B3 := Lib.hid (B2.out.trans (hb3.mono B2.out.size))
  clear hb3 B2
  go_wp2_with fail
  refine (refsum_any s w3 (by omega)).mono ?_
  rintro e w' ⟨rfl, rfl⟩
  have hcv := conv_back t w3
  have HS4 := Lib.hid (src_back t w3 (grownCap w3 t.length 0 5))
  have HB4 := Lib.hid (below_back t w3)
  generalize Lib.bytesWorld w3 5 (S t) = w4 at hcv HS4 HB4
  have hss := S_append s t
  go_wp2_with fail
  refine (more_any (sumOf s) t _ w4 (sumOf_lt s) HS4.out (by omega)).mono ?_
  rintro e w5 ⟨rfl, hb5⟩
  rw [more_sum]
  have B4 := Lib.hid (B3.out.trans (HB4.out.mono B3.out.size))
  have B5 := Lib.hid (B4.out.trans (hb5.mono B4.out.size))
  clear hcv HS4 HB4 hb5 B3 B4
  go_wp2_with fail
  refine (refsum_any (s ++ t) w5 (by rw [List.length_append]; omega)).mono ?_
  rintro e w' ⟨rfl, rfl⟩
  go_wp2
  go_ret
  exact ⟨rfl, B5.out⟩
end Go.Proofs.Ytpaadajkfnokjaa
