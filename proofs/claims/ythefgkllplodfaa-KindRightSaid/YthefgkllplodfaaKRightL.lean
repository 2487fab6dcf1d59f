/-
  KindRight's contract: it answers true at any text, and writes nothing that was there.
  Conditions: none.
-/
import Derived.Test.YthefgkllplodfaaKAwake
import Derived.Test.YthefgkllplodfaaKRef2
namespace Go.Proofs.Ythefgkllplodfaa
open Go.RowKit
set_option maxHeartbeats 400000 in
set_option maxRecDepth 100000 in
theorem kright_any (l : List UInt8) (w : World) (hs : l.length ≤ 9223372036854775807) :
    Calls Try.prog 3 #[.string (S l)] w fun e w' => e = .returned (.bool true) ∧ Below w.heap.size w w' := by
  have hsz : ((S l).size : Int) = (l.length : Int) := by rw [S_size]
  have HA := Lib.hid awake_any
  by_cases hbig : 300 < l.length
  · have hz : (300 : Int) < (l.length : Int) := by omega
    go_enter Try.func3, Try.ntmps3
    go_wp2_with (go_at_call 9; refine (HA.out _).mono ?_; rintro e w1 ⟨rfl, hb⟩)
    go_ret
    exact ⟨rfl, hb⟩
  have hz : (l.length : Int) ≤ 300 := by omega
  have hlim : l.length ≤ 1099511627776 := by omega
  go_enter Try.func3, Try.ntmps3
  go_wp2_with fail
  refine (HA.out _).mono ?_
  rintro e w1 ⟨rfl, h1⟩
  have c1 := h1
  go_wp2_with fail
  refine (right_any l _ hlim).mono ?_
  rintro e w2 ⟨rfl, h2⟩
  have c2 := c1.trans (h2.mono c1.size)
  go_wp2_with fail
  refine (refright_any l _ hlim).mono ?_
  rintro e w' ⟨rfl, rfl⟩
  go_wp2_with fail
  refine (name_any l _ hlim).mono ?_
  rintro e w4 ⟨rfl, h4⟩
  have c4 := c2.trans (h4.mono c2.size)
  go_wp2_with fail
  refine (refname_any l _ hlim).mono ?_
  rintro e w' ⟨rfl, rfl⟩
  go_wp2_with fail
  refine (plain_any l _).mono ?_
  rintro e w' ⟨rfl, rfl⟩
  go_wp2_with fail
  refine (refplain_any l _).mono ?_
  rintro e w' ⟨rfl, rfl⟩
  go_wp2_with fail
  refine (class_any l _ hlim).mono ?_
  rintro e w8 ⟨rfl, h8⟩
  have c8 := c4.trans (h8.mono c4.size)
  go_wp2_with fail
  refine (refclass_any l _ hlim).mono ?_
  rintro e w' ⟨rfl, rfl⟩
  go_wp2
  go_ret
  exact ⟨rfl, c8⟩
end Go.Proofs.Ythefgkllplodfaa
