/-
  FrameGoes's contract: it answers true at any three texts, and writes nothing that was there.
  Conditions: none.
-/
import Derived.Test.YtpaadajkfnokjaaFAwake
namespace Go.Proofs.Ytpaadajkfnokjaa
open Go.RowKit
set_option maxHeartbeats 400000 in
set_option maxRecDepth 100000 in
theorem goes_small (a b c : List UInt8) (w : World) (hza : (a.length : Int) ≤ 500) (hzb : (b.length : Int) ≤ 500) (hzc : (c.length : Int) ≤ 500) :
    Calls Try.prog 9 #[.string (S a), .string (S b), .string (S c)] w fun e w' => e = .returned (.bool true) ∧ Below w.heap.size w w' := by
  have hsa : ((S a).size : Int) = (a.length : Int) := by rw [S_size]
  have hsb : ((S b).size : Int) = (b.length : Int) := by rw [S_size]
  have hsc : ((S c).size : Int) = (c.length : Int) := by rw [S_size]
  have HA := Lib.hid awake_any
  have hcv := conv_back a w
  have HS1 := Lib.hid (src_back a w (grownCap w a.length 0 5))
  have HB1 := Lib.hid (below_back a w)
  generalize Lib.bytesWorld w 5 (S a) = w1 at hcv HS1 HB1
  go_enter Try.func9, Try.ntmps9
  go_wp2_with fail
  refine (sum_any a _ w1 HS1.out (by omega)).mono ?_
  rintro e w2 ⟨rfl, hb2⟩
  have B2 := Lib.hid (HB1.out.trans (hb2.mono HB1.out.size))
  clear hcv HS1 HB1 hb2
  have hcv := conv_back b w2
  have HS1 := Lib.hid (src_back b w2 (grownCap w2 b.length 0 5))
  have HB1 := Lib.hid (B2.out.trans ((below_back b w2).mono B2.out.size))
  generalize Lib.bytesWorld w2 5 (S b) = w3 at hcv HS1 HB1
  clear B2
  go_wp2_with fail
  refine (more_any (sumOf a) b _ w3 (sumOf_lt a) HS1.out (by omega)).mono ?_
  rintro e w4 ⟨rfl, hb4⟩
  rw [more_sum]
  have B4 := Lib.hid (HB1.out.trans (hb4.mono HB1.out.size))
  clear hcv HS1 HB1 hb4
  have hcv := conv_back c w4
  have HS1 := Lib.hid (src_back c w4 (grownCap w4 c.length 0 5))
  have HB1 := Lib.hid (B4.out.trans ((below_back c w4).mono B4.out.size))
  generalize Lib.bytesWorld w4 5 (S c) = w5 at hcv HS1 HB1
  clear B4
  go_wp2_with fail
  refine (more_any (sumOf (a ++ b)) c _ w5 (sumOf_lt _) HS1.out (by omega)).mono ?_
  rintro e w6 ⟨rfl, hb6⟩
  rw [more_sum]
  obtain ⟨d, hd⟩ : ∃ d, d = a ++ b ++ c := ⟨_, rfl⟩
  rw [← hd]
  have HD := Lib.hid hd
  clear hd
  have B6 := Lib.hid (HB1.out.trans (hb6.mono HB1.out.size))
  clear hcv HS1 HB1 hb6
  go_wp2_with fail
  refine (HA.out w6).mono ?_
  rintro e w7 ⟨rfl, hb7⟩
  have B7 := Lib.hid (B6.out.trans (hb7.mono B6.out.size))
  clear hb7 B6
  have hss := S_append a b
  have hss2 := S_append (a ++ b) c
  have hsab : ((S (a ++ b)).size : Int) = (a.length : Int) + (b.length : Int) := by rw [S_size, List.length_append]; omega
  rw [← HD.out] at hss2
  have hdl : d.length ≤ 1500 := by rw [HD.out]; simp only [List.length_append]; omega
  have hcv := conv_back d w7
  have HS1 := Lib.hid (src_back d w7 (grownCap w7 d.length 0 5))
  have HB1 := Lib.hid (B7.out.trans ((below_back d w7).mono B7.out.size))
  generalize Lib.bytesWorld w7 5 (S d) = w8 at hcv HS1 HB1
  clear B7
  go_wp2_with fail
  refine (sum_any d _ w8 HS1.out (by omega)).mono ?_
  rintro e w9 ⟨rfl, hb9⟩
  have B9 := Lib.hid (HB1.out.trans (hb9.mono HB1.out.size))
  clear hcv HS1 HB1 hb9
  go_wp2_with fail
  refine (more_any (sumOf d) [] _ w9 (sumOf_lt d) (.inl ⟨rfl, rfl⟩) (by decide)).mono ?_
  rintro e wa ⟨rfl, hba⟩
  rw [more_nil _ (sumOf_lt d)]
  have BA := Lib.hid (B9.out.trans (hba.mono B9.out.size))
  clear hba B9
  go_wp2
  go_ret
  exact ⟨rfl, BA.out⟩
set_option maxHeartbeats 400000 in
set_option maxRecDepth 100000 in
theorem goes_any (a b c : List UInt8) (w : World) (hs : a.length ≤ 9223372036854775807) (ht : b.length ≤ 9223372036854775807) (hu : c.length ≤ 9223372036854775807) :
    Calls Try.prog 9 #[.string (S a), .string (S b), .string (S c)] w fun e w' => e = .returned (.bool true) ∧ Below w.heap.size w w' := by
  by_cases hall : (a.length : Int) ≤ 500 ∧ (b.length : Int) ≤ 500 ∧ (c.length : Int) ≤ 500
  · exact goes_small a b c w hall.1 hall.2.1 hall.2.2
  have hsa : ((S a).size : Int) = (a.length : Int) := by rw [S_size]
  have hsb : ((S b).size : Int) = (b.length : Int) := by rw [S_size]
  have hsc : ((S c).size : Int) = (c.length : Int) := by rw [S_size]
  have HA := Lib.hid awake_any
  by_cases h1 : (500 : Int) < (a.length : Int)
  · clear hall
    go_enter Try.func9, Try.ntmps9
    go_wp2_with (go_at_call 10; refine (HA.out _).mono ?_; rintro e w1 ⟨rfl, hb⟩)
    go_ret
    exact ⟨rfl, hb⟩
  have h1' : (a.length : Int) ≤ 500 := by omega
  by_cases h2 : (500 : Int) < (b.length : Int)
  · clear hall h1
    go_enter Try.func9, Try.ntmps9
    go_wp2_with (go_at_call 10; refine (HA.out _).mono ?_; rintro e w1 ⟨rfl, hb⟩)
    go_ret
    exact ⟨rfl, hb⟩
  have h2' : (b.length : Int) ≤ 500 := by omega
  have h3 : (500 : Int) < (c.length : Int) := by omega
  clear hall h1 h2
  go_enter Try.func9, Try.ntmps9
  go_wp2_with (go_at_call 10; refine (HA.out _).mono ?_; rintro e w1 ⟨rfl, hb⟩)
  go_ret
  exact ⟨rfl, hb⟩
end Go.Proofs.Ytpaadajkfnokjaa
