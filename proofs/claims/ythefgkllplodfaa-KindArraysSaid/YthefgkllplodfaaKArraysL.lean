/-
  KindArrays's contract: it answers true at any text, and writes nothing that was there.
  Conditions: none.
-/
import Derived.Test.YthefgkllplodfaaKAwake
import Derived.Test.YthefgkllplodfaaKRef2
namespace Go.Proofs.Ythefgkllplodfaa
open Go.RowKit
set_option maxHeartbeats 400000 in
set_option maxRecDepth 100000 in
theorem karrays_any (l : List UInt8) (w : World) (hs : l.length ≤ 9223372036854775807) :
    Calls Try.prog 5 #[.string (S l)] w fun e w' => e = .returned (.bool true) ∧ Below w.heap.size w w' := by
  have hsz : ((S l).size : Int) = (l.length : Int) := by rw [S_size]
  have HA := Lib.hid awake_any
  by_cases hbig : 300 < l.length
  · have hz : (300 : Int) < (l.length : Int) := by omega
    go_enter Try.func5, Try.ntmps5
    go_wp2_with (go_at_call 9; refine (HA.out _).mono ?_; rintro e w1 ⟨rfl, hb⟩)
    go_ret
    exact ⟨rfl, hb⟩
  have hz : (l.length : Int) ≤ 300 := by omega
  have hlim : l.length ≤ 1099511627776 := by omega
  have HR := Lib.hid (fun w => refright_any l w hlim)
  have HD := Lib.hid (fun w => refdeep_any l w hlim)
  cases hr : rightB l with
  | false =>
    have HO := Lib.hid (fun w => of_no l w hlim (fun h => by rw [hr] at h; cases h.1))
    rw [hr] at HR
    clear hr
    go_enter Try.func5, Try.ntmps5
    go_wp2_with fail
    refine (HO.out _).mono ?_
    rintro e w1 ⟨rfl, h1⟩
    have c1 := h1
    go_wp2_with fail
    refine (HR.out _).mono ?_
    rintro e w' ⟨rfl, rfl⟩
    go_wp2_with fail
    refine (HA.out _).mono ?_
    rintro e w3 ⟨rfl, h3⟩
    have c3 := c1.trans (h3.mono c1.size)
    go_wp2
    go_ret
    exact ⟨rfl, c3⟩
  | true =>
    by_cases h2 : deepN l ≤ 2
    · have HO := Lib.hid (fun w => of_yes l w hlim hr h2)
      have hcat : (S l ++ ⟨#[91, 93]⟩ : ByteArray) = S (ofL l) := S_append l [91, 93]
      have hr2 : rightB (ofL l) = true := by rw [ofL_right, hr, decide_eq_true h2]; rfl
      have hlim2 : (ofL l).length ≤ 1099511627776 := by rw [ofL_length]; omega
      have HT := Lib.hid (fun w => right_any (ofL l) w hlim2)
      unfold Said at HT
      rw [hr2] at HT
      have HE := Lib.hid (fun w => elem_any (ofL l) w hlim2)
      unfold SaidS at HE
      rw [elem_of l hr h2] at HE
      have HK := Lib.hid (fun w => deep_any l w hlim)
      unfold SaidN at HK
      rw [depN_right hr] at HK
      have HK2 := Lib.hid (fun w => deep_any (ofL l) w hlim2)
      unfold SaidN at HK2
      rw [depN_right hr2, ofL_deep, show ((deepN l + 1 : Nat) : Int) = (deepN l : Int) + 1 from rfl] at HK2
      have hd2 : (deepN l : Int) ≤ 2 := by omega
      rw [hr] at HR
      have hsum : (S l).size + 2 ≤ 9223372036854775807 := by rw [S_size]; omega
      clear hr hr2 hlim2 h2
      generalize deepN l = N at *
      go_enter Try.func5, Try.ntmps5
      go_wp2_with fail
      refine (HO.out _).mono ?_
      rintro e w1 ⟨rfl, h1⟩
      have c1 := h1
      go_wp2_with fail
      refine (HR.out _).mono ?_
      rintro e w' ⟨rfl, rfl⟩
      go_wp2_with fail
      refine (HD.out _).mono ?_
      rintro e w' ⟨rfl, rfl⟩
      go_wp2_with fail
      refine (HA.out _).mono ?_
      rintro e w4 ⟨rfl, h4⟩
      have c4 := c1.trans (h4.mono c1.size)
      go_wp2_with fail
      refine (HT.out _).mono ?_
      rintro e w5 ⟨rfl, h5⟩
      have c5 := c4.trans (h5.mono c4.size)
      go_wp2_with fail
      refine (HE.out _).mono ?_
      rintro e w6 ⟨rfl, h6⟩
      have c6 := c5.trans (h6.mono c5.size)
      go_wp2_with fail
      refine (HK2.out _).mono ?_
      rintro e w7 ⟨rfl, h7⟩
      have c7 := c6.trans (h7.mono c6.size)
      go_wp2_with fail
      refine (HK.out _).mono ?_
      rintro e w8 ⟨rfl, h8⟩
      have c8 := c7.trans (h8.mono c7.size)
      go_wp2
      go_ret
      exact ⟨rfl, c8⟩
    · have HO := Lib.hid (fun w => of_no l w hlim (fun h => h2 h.2))
      have hd2 : (2 : Int) < (deepN l : Int) := by omega
      rw [hr] at HR
      clear hr h2
      generalize deepN l = N at *
      go_enter Try.func5, Try.ntmps5
      go_wp2_with fail
      refine (HO.out _).mono ?_
      rintro e w1 ⟨rfl, h1⟩
      have c1 := h1
      go_wp2_with fail
      refine (HR.out _).mono ?_
      rintro e w' ⟨rfl, rfl⟩
      go_wp2_with fail
      refine (HD.out _).mono ?_
      rintro e w' ⟨rfl, rfl⟩
      go_wp2_with fail
      refine (HA.out _).mono ?_
      rintro e w4 ⟨rfl, h4⟩
      have c4 := c1.trans (h4.mono c1.size)
      go_wp2
      go_ret
      exact ⟨rfl, c4⟩
end Go.Proofs.Ythefgkllplodfaa
