/-
  The contracts of package kind's Elem and Parts, and of the laws' awake.
  Conditions: the text has at most 2^40 bytes.
-/
import Derived.Test.YtcoobdbfgiiejaaGreatDoorKDepth
namespace Go.Proofs.YtcoobdbfgiiejaaGreatDoor
open Go.RowKit
/-- What Parts answers. -/
def SaidParts (l : List UInt8) (w : World) (e : Ending) (w' : World) : Prop :=
  (if partsB l = true then e = .returned (.tuple #[.string (S (l.take (dotAt l))), .string (S (l.drop (dotAt l + 1))), .int .i64 0]) else e = .returned (.tuple #[.string ⟨#[]⟩, .string ⟨#[]⟩, .int .i64 30])) ∧ Below w.heap.size w w'
theorem below_drewN (w : World) (q : Nat) : Below w.heap.size w (w.drewN q) := by
  induction q with
  | zero => exact Below.refl _ _
  | succ q ih => exact ih.drew
set_option maxHeartbeats 1000000 in
theorem parts_any (l : List UInt8) (w : World) (hlim : l.length ≤ 1099511627776) :
    Calls Tryz.prog 109 #[.string (S l)] w (SaidParts l w) := by
  go_enter Tryz.func109, Tryz.ntmps109
  go_wp2_with fail
  refine (cut_any l w hlim).mono ?_
  rintro e w' ⟨⟨q, rfl⟩, hc⟩
  have hb0 := below_drewN w q
  generalize w.drewN q = w1 at *
  rcases hc with ⟨hd, rfl⟩ | ⟨hd, rfl⟩
  · have HP := Lib.hid (show partsB l = (classB (l.take (dotAt l)) && memberB (l.drop (dotAt l + 1))) by unfold partsB; rw [decide_eq_true hd, Bool.true_and])
    have HA := Lib.hid (fun w => class_any (l.take (dotAt l)) w (by rw [List.length_take]; omega))
    have HB := Lib.hid (fun w => named_lo (l.drop (dotAt l + 1)) w (by rw [List.length_drop]; omega))
    have HC1 := Lib.hid (fun w => sclone_any (S (l.take (dotAt l))) w (by rw [S_size, List.length_take]; omega))
    have HC2 := Lib.hid (fun w => sclone_any (S (l.drop (dotAt l + 1))) w (by rw [S_size, List.length_drop]; omega))
    unfold Said at HA HB
    clear hd
    have HF : Hid (∀ e w', (if partsB l = true then e = .returned (.tuple #[.string (S (l.take (dotAt l))), .string (S (l.drop (dotAt l + 1))), .int .i64 0]) else e = .returned (.tuple #[.string ⟨#[]⟩, .string ⟨#[]⟩, .int .i64 30])) → Below w.heap.size w w' → SaidParts l w e w') := fun e w' h h2 => ⟨h, h2⟩
    generalize S (l.take (dotAt l)) = A at *
    generalize S (l.drop (dotAt l + 1)) = B at *
    generalize memberB (l.drop (dotAt l + 1)) = mb at *
    generalize classB (l.take (dotAt l)) = cb at *
    cases cb with
    | false =>
      go_wp2_with fail
      refine (HA.out _).mono ?_
      rintro e w2 ⟨rfl, hb2⟩
      go_wp2
      go_ret3
      exact HF.out _ _ (by rw [HP.out]; rfl) (hb0.trans (hb2.mono hb0.size))
    | true =>
      cases mb with
      | false =>
        go_wp2_with fail
        refine (HA.out _).mono ?_
        rintro e w2 ⟨rfl, hb2⟩
        go_wp2_with fail
        refine (HB.out _).mono ?_
        rintro e w3 ⟨rfl, hb3⟩
        have b2 := hb0.trans (hb2.mono hb0.size)
        have b3 := b2.trans (hb3.mono b2.size)
        go_wp2
        go_ret3
        exact HF.out _ _ (by rw [HP.out]; rfl) b3
      | true =>
        go_wp2_with fail
        refine (HA.out _).mono ?_
        rintro e w2 ⟨rfl, hb2⟩
        go_wp2_with fail
        refine (HB.out _).mono ?_
        rintro e w3 ⟨rfl, hb3⟩
        go_wp2_with fail
        refine (HC1.out _).mono ?_
        rintro e w4 ⟨rfl, hb4⟩
        go_wp2_with fail
        refine (HC2.out _).mono ?_
        rintro e w5 ⟨rfl, hb5⟩
        have b2 := hb0.trans (hb2.mono hb0.size)
        have b3 := b2.trans (hb3.mono b2.size)
        have b4 := b3.trans (hb4.mono b3.size)
        have b5 := b4.trans (hb5.mono b4.size)
        go_wp2
        go_ret3
        exact HF.out _ _ (by rw [HP.out]; rfl) b5
  · have HP := Lib.hid (show partsB l = false by unfold partsB; rw [decide_eq_false (show ¬ dotAt l < l.length by omega), Bool.false_and])
    have HA := Lib.hid (fun w => class_any l w hlim)
    have HB := Lib.hid (fun w => named_lo [] w (by simp))
    rw [show memberB [] = false from rfl] at HB
    unfold Said at HA HB
    clear hd
    cases hcb : classB l with
    | false =>
      rw [hcb] at HA
      clear hcb
      go_wp2_with fail
      refine (HA.out _).mono ?_
      rintro e w2 ⟨rfl, hb2⟩
      go_wp2
      go_ret3
      exact ⟨by rw [HP.out]; rfl, hb0.trans (hb2.mono hb0.size)⟩
    | true =>
      rw [hcb] at HA
      clear hcb
      go_wp2_with fail
      refine (HA.out _).mono ?_
      rintro e w2 ⟨rfl, hb2⟩
      go_wp2_with fail
      refine (HB.out _).mono ?_
      rintro e w3 ⟨rfl, hb3⟩
      have b2 := hb0.trans (hb2.mono hb0.size)
      have b3 := b2.trans (hb3.mono b2.size)
      go_wp2
      go_ret3
      exact ⟨by rw [HP.out]; rfl, b3⟩
/-- Parts of a member. -/
theorem parts_yes (l : List UInt8) (w : World) (hlim : l.length ≤ 1099511627776) (h : partsB l = true) :
    Calls Tryz.prog 109 #[.string (S l)] w fun e w' => e = .returned (.tuple #[.string (S (l.take (dotAt l))), .string (S (l.drop (dotAt l + 1))), .int .i64 0]) ∧ Below w.heap.size w w' := by
  refine (parts_any l w hlim).mono ?_
  rintro e w' ⟨h1, h2⟩
  rw [if_pos h] at h1
  exact ⟨h1, h2⟩
/-- Parts of any other text. -/
theorem parts_no (l : List UInt8) (w : World) (hlim : l.length ≤ 1099511627776) (h : partsB l = false) :
    Calls Tryz.prog 109 #[.string (S l)] w fun e w' => e = .returned (.tuple #[.string ⟨#[]⟩, .string ⟨#[]⟩, .int .i64 30]) ∧ Below w.heap.size w w' := by
  refine (parts_any l w hlim).mono ?_
  rintro e w' ⟨h1, h2⟩
  rw [if_neg (by rw [h]; decide)] at h1
  exact ⟨h1, h2⟩
/-- Arrays of a kind that is not too deep. -/
theorem of_yes (l : List UInt8) (w : World) (hlim : l.length ≤ 1099511627776) (h : rightB l = true) (h2 : deepN l ≤ 2) :
    Calls Tryz.prog 108 #[.string (S l)] w fun e w' => e = .returned (.tuple #[.string (S (ofL l)), .int .i64 0]) ∧ Below w.heap.size w w' := by
  refine (of_any l w hlim).mono ?_
  rintro e w' ⟨h3, h4⟩
  rw [if_pos ⟨h, h2⟩] at h3
  exact ⟨h3, h4⟩
/-- There are no arrays of any other text. -/
theorem of_no (l : List UInt8) (w : World) (hlim : l.length ≤ 1099511627776) (h : ¬ (rightB l = true ∧ deepN l ≤ 2)) :
    Calls Tryz.prog 108 #[.string (S l)] w fun e w' => e = .returned (.tuple #[.string ⟨#[]⟩, .int .i64 30]) ∧ Below w.heap.size w w' := by
  refine (of_any l w hlim).mono ?_
  rintro e w' ⟨h3, h4⟩
  rw [if_neg h] at h3
  exact ⟨h3, h4⟩
end Go.Proofs.YtcoobdbfgiiejaaGreatDoor
