/-
  The walk of the law CodeReads: a text that is read is its instructions' text.
  Conditions: the tables and the errors of strconv hold what they hold at the start.
-/
import Derived.Test.YtcoobdbfgiiejaaGreatDoorCRead6
import Derived.Test.YtcoobdbfgiiejaaGreatDoorCE
import Derived.Test.YtcoobdbfgiiejaaGreatDoorCB
namespace Go.Proofs.YtcoobdbfgiiejaaGreatDoor
open Go.RowKit
set_option maxHeartbeats 4000000 in
set_option maxRecDepth 100000 in
theorem readsLaw_any (s : List UInt8) (w : World) (hT : CT w) (hp : Pow10 w) (hE : EV w) (_hs : s.length ≤ 9223372036854775807) :
    Calls Tryz.prog 6 #[.string (S s)] w fun e w' => e = .returned (.bool true) ∧ Below w.heap.size w w' := by
  have HT := Lib.hid hT
  have HP := Lib.hid hp
  have HE := Lib.hid hE
  have hsz : ((S s).size : Int) = (s.length : Int) := by rw [S_size]
  have HAW : Hid (∀ W, Below w.heap.size w W → Calls Tryz.prog 9 #[] W fun e w' => e = .returned (.bool true) ∧ Below w.heap.size w w' ∧ Below W.heap.size W w') := Lib.hid (fun W hW => (awake_any W (HT.out.keep hW) (HP.out.keep hW)).mono (fun _ _ h => ⟨h.1, hW.trans (h.2.mono hW.size), h.2⟩))
  clear hT hp hE
  by_cases h3 : s.length ≤ 3000
  · have h3' : ¬ (3000 < (s.length : Int)) := by omega
    have H3 := Lib.hid h3
    clear h3
    go_enter Tryz.func6, Tryz.ntmps6
    go_wp2_with fail
    refine (cread_any s w HT.out HP.out HE.out (by have := H3.out; omega)).mono ?_
    rintro e w2 ⟨hb2, hres⟩
    have B2 := Lib.hid hb2
    clear hb2
    rcases hres with ⟨vs, m, rfl, ir2, hm, hok⟩ | ⟨rfl, _⟩
    · have hz : allE m = 0 := allE_all m (fun x hx => (hok x hx).2)
      have hst : showL m = s := by
        unfold showL
        rw [List.flatMap_def, hm]
        exact flatten_lines _ s (Nat.le_refl _)
      have hml : m.length ≤ 3000 := by
        have h1 := congrArg List.length hm
        have h2 := lines_count _ s (Nat.le_refl _)
        have h4 := H3.out
        rw [List.length_map] at h1
        omega
      have IR2 := Lib.hid ir2
      have HZ := Lib.hid hz
      have HML := Lib.hid hml
      have HOK : Hid (∀ x ∈ m, x.ok) := Lib.hid (fun x hx => (hok x hx).1)
      have HST := Lib.hid hst
      obtain ⟨ao, cp, rfl⟩ := ir2.shape
      clear ir2 hm hok hz hst hml
      go_wp2_with fail
      refine (HAW.out w2 B2.out).mono ?_
      rintro e w3 ⟨rfl, b3, hb3⟩
      have IR3 := Lib.hid (IR2.out.keep hb3)
      have B3 := Lib.hid b3
      clear b3 hb3
      go_wp2_with fail
      refine (refall_any m _ w3 IR3.out.src (fun x hx => by have := (HOK.out x hx).2; omega) (by have := HML.out; omega)).mono ?_
      rintro e w4 ⟨rfl, hb4⟩
      rw [HZ.out]
      have IR4 := Lib.hid (IR3.out.keep hb4)
      have B4 := Lib.hid (B3.out.trans (hb4.mono B3.out.size))
      have e1 := S_toList (showL m)
      have e2 := S_toList s
      have hb : (showL m == s) = true := beq_iff_eq.2 HST.out
      have HSH : Hid (Calls Tryz.prog 22 #[.slice ao m.length cp] w4 fun e w' => e = .returned (.string (S (showL m))) ∧ Below w4.heap.size w4 w') := Lib.hid (refshow_any m _ w4 IR4.out.src HZ.out HOK.out (by have := HML.out; omega))
      generalize showL m = TX at HSH hb e1
      clear hb4 HST
      go_wp2_with (go_at_call 22; refine HSH.out.mono ?_; rintro e w5 ⟨rfl, hb5⟩)
      go_ret
      exact ⟨by first | rfl | (congr 2), B4.out.trans (hb5.mono B4.out.size)⟩
    · go_wp2_with fail
      refine (HAW.out w2 B2.out).mono ?_
      rintro e w3 ⟨rfl, b3, _⟩
      go_wp2
      go_ret
      exact ⟨rfl, b3⟩
  · have h3' : 3000 < (s.length : Int) := by omega
    clear h3
    go_enter Tryz.func6, Tryz.ntmps6
    go_wp2_with fail
    refine (HAW.out w (Below.refl _ _)).mono ?_
    rintro e w2 ⟨rfl, b2, _⟩
    go_wp2
    go_ret
    exact ⟨rfl, b2⟩
end Go.Proofs.YtcoobdbfgiiejaaGreatDoor
