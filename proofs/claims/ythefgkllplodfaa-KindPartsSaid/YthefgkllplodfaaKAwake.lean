/-
  The contract of the laws' awake: the chapter's examples come out as the chapter says.
  Conditions: none.
-/
import Derived.Test.YthefgkllplodfaaKElem
namespace Go.Proofs.Ythefgkllplodfaa
open Go.RowKit
theorem name_base {l : List UInt8} (h : nameB l = true) : baseL l = l := by
  unfold baseL
  rw [base_deep h]
  simp
theorem name_right {l : List UInt8} (h : nameB l = true) : rightB l = (plainB l || classB l) := by
  unfold rightB
  rw [name_base h, base_deep h]
  rfl
def exNode : List UInt8 := [78, 111, 100, 101]
theorem ex_node : rightB exNode = true ∧ deepN exNode = 0 := by
  have h : nameB exNode = true := by decide
  exact ⟨by rw [name_right h]; decide, base_deep h⟩
theorem ex_two : rightB (ofL (ofL exNode)) = true ∧ depN (ofL (ofL exNode)) = 2 ∧ elemL (ofL (ofL exNode)) = ofL exNode := by
  have h1 : rightB (ofL exNode) = true := by rw [ofL_right, ex_node.1, ex_node.2]; rfl
  have h2 : deepN (ofL exNode) = 1 := by rw [ofL_deep, ex_node.2]
  have h3 : rightB (ofL (ofL exNode)) = true := by rw [ofL_right, h1, h2]; rfl
  exact ⟨h3, by rw [depN_right h3, ofL_deep, h2], elem_of _ h1 (by omega)⟩
theorem ex_no : rightB [110, 111, 100, 101] = false := by rw [name_right (by decide)]; decide
theorem ex_int : plainB [105, 110, 116] = true := by decide
theorem ex_parts : partsB [78, 111, 100, 101, 46, 110, 101, 120, 116] = true := by decide
set_option maxHeartbeats 400000 in
set_option maxRecDepth 100000 in
theorem awake_any (w : World) : Calls Try.prog 9 #[] w fun e w' => e = .returned (.bool true) ∧ Below w.heap.size w w' := by
  have HP := Lib.hid (fun w => parts_yes [78, 111, 100, 101, 46, 110, 101, 120, 116] w (by decide) ex_parts)
  have HR := Lib.hid (fun w => right_any (ofL (ofL exNode)) w (by decide))
  have HE := Lib.hid (fun w => elem_any (ofL (ofL exNode)) w (by decide))
  have HD := Lib.hid (fun w => deep_any (ofL (ofL exNode)) w (by decide))
  have HN := Lib.hid (fun w => right_any [110, 111, 100, 101] w (by decide))
  have HI := Lib.hid (plain_any [105, 110, 116])
  unfold Said at HR HN
  rw [ex_two.1] at HR
  rw [ex_no] at HN
  unfold SaidS at HE
  rw [ex_two.2.2] at HE
  unfold SaidN at HD
  rw [ex_two.2.1] at HD
  rw [ex_int] at HI
  go_enter Try.func9, Try.ntmps9
  go_wp2_with fail
  refine (HP.out _).mono ?_
  rintro e w1 ⟨he, b1⟩
  obtain rfl : e = .returned (.tuple #[.string ⟨#[78, 111, 100, 101]⟩, .string ⟨#[110, 101, 120, 116]⟩, .int .i64 0]) := he
  go_wp2_with fail
  refine (HR.out _).mono ?_
  rintro e w2 ⟨rfl, h2⟩
  have b2 := b1.trans (h2.mono b1.size)
  go_wp2_with fail
  refine (HE.out _).mono ?_
  rintro e w3 ⟨he, h3⟩
  obtain rfl : e = .returned (.string ⟨#[78, 111, 100, 101, 91, 93]⟩) := he
  have b3 := b2.trans (h3.mono b2.size)
  go_wp2_with fail
  refine (HD.out _).mono ?_
  rintro e w4 ⟨he, h4⟩
  obtain rfl : e = .returned (.int .i64 2) := he
  have b4 := b3.trans (h4.mono b3.size)
  go_wp2_with fail
  refine (HN.out _).mono ?_
  rintro e w5 ⟨rfl, h5⟩
  have b5 := b4.trans (h5.mono b4.size)
  go_wp2_with fail
  refine (HI.out _).mono ?_
  rintro e w6 ⟨rfl, rfl⟩
  go_wp2
  go_ret
  exact ⟨rfl, b5⟩
end Go.Proofs.Ythefgkllplodfaa
