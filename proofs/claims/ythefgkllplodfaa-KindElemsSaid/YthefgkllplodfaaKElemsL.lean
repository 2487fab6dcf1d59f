/-
  KindElems's contract: it answers true at any text, and writes nothing that was there.
  Conditions: none.
-/
import Derived.Test.YthefgkllplodfaaKAwake
import Derived.Test.YthefgkllplodfaaKRef2
namespace Go.Proofs.Ythefgkllplodfaa
open Go.RowKit
set_option maxHeartbeats 400000 in
set_option maxRecDepth 100000 in
theorem kelems_any (l : List UInt8) (w : World) (hs : l.length ≤ 9223372036854775807) :
    Calls Try.prog 4 #[.string (S l)] w fun e w' => e = .returned (.bool true) ∧ Below w.heap.size w w' := by
  have hsz : ((S l).size : Int) = (l.length : Int) := by rw [S_size]
  have HA := Lib.hid awake_any
  by_cases hbig : 300 < l.length
  · have hz : (300 : Int) < (l.length : Int) := by omega
    go_enter Try.func4, Try.ntmps4
    go_wp2_with (go_at_call 9; refine (HA.out _).mono ?_; rintro e w1 ⟨rfl, hb⟩)
    go_ret
    exact ⟨rfl, hb⟩
  have hz : (l.length : Int) ≤ 300 := by omega
  have hlim : l.length ≤ 1099511627776 := by omega
  have HR := Lib.hid (fun w => refright_any l w hlim)
  have HD := Lib.hid (fun w => refdeep_any l w hlim)
  have HK := Lib.hid (fun w => deep_any l w hlim)
  unfold SaidN at HK
  cases hr : rightB l with
  | true =>
    rw [hr] at HR
    rw [depN_right hr] at HK
    clear hr
    go_enter Try.func4, Try.ntmps4
    go_wp2_with fail
    refine (HR.out _).mono ?_
    rintro e w' ⟨rfl, rfl⟩
    go_wp2_with fail
    refine (HD.out _).mono ?_
    rintro e w' ⟨rfl, rfl⟩
    go_wp2_with fail
    refine (HA.out _).mono ?_
    rintro e w3 ⟨rfl, h3⟩
    have c3 := h3
    go_wp2_with fail
    refine (elem_any l _ hlim).mono ?_
    rintro e w4 ⟨rfl, h4⟩
    have c4 := c3.trans (h4.mono c3.size)
    go_wp2_with fail
    refine (refelem_any l _ hlim).mono ?_
    rintro e w' ⟨rfl, rfl⟩
    go_wp2_with fail
    refine (HK.out _).mono ?_
    rintro e w6 ⟨rfl, h6⟩
    have c6 := c4.trans (h6.mono c4.size)
    go_wp2
    go_ret
    exact ⟨rfl, c6⟩
  | false =>
    rw [hr] at HR
    rw [depN_not hr] at HK
    clear hr
    go_enter Try.func4, Try.ntmps4
    go_wp2_with fail
    refine (HR.out _).mono ?_
    rintro e w' ⟨rfl, rfl⟩
    go_wp2_with fail
    refine (HA.out _).mono ?_
    rintro e w2 ⟨rfl, h2⟩
    have c2 := h2
    go_wp2_with fail
    refine (elem_any l _ hlim).mono ?_
    rintro e w3 ⟨rfl, h3⟩
    have c3 := c2.trans (h3.mono c2.size)
    go_wp2_with fail
    refine (refelem_any l _ hlim).mono ?_
    rintro e w' ⟨rfl, rfl⟩
    go_wp2_with fail
    refine (HK.out _).mono ?_
    rintro e w5 ⟨rfl, h5⟩
    have c5 := c3.trans (h5.mono c3.size)
    go_wp2
    go_ret
    exact ⟨rfl, c5⟩
end Go.Proofs.Ythefgkllplodfaa
