/-
  The walk of the law CodeGets: any bytes are the document's instructions, or none's.
  Conditions: the tables hold what they hold at the start.
-/
import Derived.Test.YtcoobdbfgiiejaaGreatDoorCRefT2
import Derived.Test.YtcoobdbfgiiejaaGreatDoorCE
import Derived.Test.YtcoobdbfgiiejaaGreatDoorCB
namespace Go.Proofs.YtcoobdbfgiiejaaGreatDoor
open Go.RowKit
set_option maxHeartbeats 4000000 in
set_option maxRecDepth 100000 in
theorem getsLaw_any (s : List UInt8) (w : World) (hT : CT w) (hp : Pow10 w) (hs : s.length ≤ 9223372036854775807) :
    Calls Tryz.prog 4 #[.string (S s)] w fun e w' => e = .returned (.bool true) ∧ Below w.heap.size w w' := by
  have HT := Lib.hid hT
  have HP := Lib.hid hp
  have hsz : ((S s).size : Int) = (s.length : Int) := by rw [S_size]
  have HAW : Hid (∀ W, Below w.heap.size w W → Calls Tryz.prog 9 #[] W fun e w' => e = .returned (.bool true) ∧ Below w.heap.size w w' ∧ Below W.heap.size W w') := Lib.hid (fun W hW => (awake_any W (HT.out.keep hW) (HP.out.keep hW)).mono (fun _ _ h => ⟨h.1, hW.trans (h.2.mono hW.size), h.2⟩))
  clear hT hp
  by_cases h3 : s.length ≤ 3000
  · have h3' : ¬ (3000 < (s.length : Int)) := by omega
    have H3 := Lib.hid h3
    have hcb := conv_back s w
    have hsrc := src_back s w (grownCap w s.length 0 5)
    have hbb := below_back s w
    generalize grownCap w s.length 0 5 = cc at hcb hsrc
    generalize Lib.bytesWorld w 5 (S s) = w1 at hcb hsrc hbb
    have HSRC := Lib.hid hsrc
    have B1 := Lib.hid hbb
    clear hsrc hbb h3
    go_enter Tryz.func4, Tryz.ntmps4
    go_wp2_with fail
    refine (get_any _ s w1 HSRC.out (HT.out.keep B1.out) (by have := H3.out; omega)).mono ?_
    rintro e w2 ⟨hb2, hres⟩
    have b2 : Below w.heap.size w w2 := B1.out.trans (hb2.mono B1.out.size)
    have B2 := Lib.hid b2
    clear hcb hb2 b2
    have hrt := reftake_any s w2 (by have := H3.out; omega)
    have HRT := Lib.hid hrt
    clear hrt
    by_cases hex : ∃ y : List Ins, (∀ x ∈ y, x.ok) ∧ allE y = 0 ∧ y.length ≤ 200 ∧ putL y = s
    · obtain ⟨y, hy1, hy2, hy3, hy4⟩ := hex
      rcases hres with ⟨vs, m, rfl, ir2, _, _, _, _, hun⟩ | ⟨rfl, hno⟩
      · obtain rfl := hun y hy1 hy2 hy3 hy4
        have IR2 := Lib.hid ir2
        have HY1 := Lib.hid hy1
        have HY2 := Lib.hid hy2
        have HY3 := Lib.hid hy3
        have HY4 := Lib.hid hy4
        obtain ⟨ao2, cp2, rfl⟩ := ir2.shape
        clear ir2 hun hy1 hy2 hy3 hy4
        go_wp2_with fail
        refine HRT.out.mono ?_
        rintro e w3 ⟨hb3, hr3⟩
        rcases hr3 with ⟨vs3, m3, rest, rfl, ir3, hs3, hz3, hl3, hok3⟩ | ⟨rfl, hno3⟩
        · have hpp : putL m3 ++ rest = putL m := hs3.symm.trans HY4.out.symm
          have hmm : m3 = m ∧ rest = [] := by
            unfold putL at hpp
            rw [List.append_assoc] at hpp
            obtain ⟨e1, e2⟩ := uvar_inj (by omega) (by have := HY3.out; omega) hpp
            have e2' : m3.flatMap Ins.bytes ++ rest = m.flatMap Ins.bytes ++ [] := by rw [List.append_nil]; exact e2
            obtain ⟨e3, e4⟩ := many_inj m3 m rest [] (by omega) (fun x hx => ⟨hok3 x hx, allE_mem m3 hz3 x hx⟩) (fun x hx => ⟨HY1.out x hx, allE_mem m HY2.out x hx⟩) e2'
            rw [e1, List.take_of_length_le (Nat.le_refl _)] at e3
            rw [e1, List.drop_of_length_le (Nat.le_refl _)] at e4
            exact ⟨e3, by simpa using e4⟩
          obtain ⟨rfl, rfl⟩ := hmm
          have b3 : Below w.heap.size w w3 := B2.out.trans (hb3.mono B2.out.size)
          have B3 := Lib.hid b3
          have IR2' := Lib.hid (IR2.out.keep hb3)
          have IR3 := Lib.hid ir3
          obtain ⟨ao3, cp3, rfl⟩ := ir3.shape
          rw [show S [] = ⟨#[]⟩ from rfl]
          clear hb3 b3 ir3 hs3 hz3 hl3 hok3 hpp HRT
          go_wp2_with fail
          refine (HAW.out w3 B3.out).mono ?_
          rintro e w4 ⟨rfl, b4, hb4⟩
          have HSM := Lib.hid (refsame_any m3 _ _ w4 (IR2'.out.keep hb4).src (IR3.out.keep hb4).src (by have := HY3.out; omega))
          have B4 := Lib.hid b4
          clear b4 hb4
          go_wp2_with (go_at_call 14; refine HSM.out.mono ?_; rintro e w5 ⟨rfl, hb5⟩)
          go_ret
          exact ⟨rfl, B4.out.trans (hb5.mono B4.out.size)⟩
        · exact absurd (by rw [List.append_nil]; exact HY4.out.symm) (hno3 m [] HY1.out HY2.out HY3.out)
      · exact absurd hy4 (hno y hy1 hy2 hy3)
    · rcases hres with ⟨vs, m, rfl, ir2, h1, h2, h4, h5, _⟩ | ⟨rfl, hno⟩
      · exact absurd ⟨m, h5, h1, h4, h2⟩ hex
      · have HEX := Lib.hid hex
        clear hno hex
        go_wp2_with fail
        refine HRT.out.mono ?_
        rintro e w3 ⟨hb3, hr3⟩
        have b3 : Below w.heap.size w w3 := B2.out.trans (hb3.mono B2.out.size)
        have B3 := Lib.hid b3
        clear hb3 b3 HRT
        rcases hr3 with ⟨vs3, m3, rest, rfl, ir3, hs3, hz3, hl3, hok3⟩ | ⟨rfl, hno3⟩
        · have hne : rest ≠ [] := fun e => HEX.out ⟨m3, hok3, hz3, hl3, by rw [hs3, e, List.append_nil]⟩
          have es := S_toList rest
          have e1 : (rest == []) = false := beq_eq_false_iff_ne.2 hne
          have e2 : rest.isEmpty = false := by cases rest with | nil => exact absurd rfl hne | cons _ _ => rfl
          obtain ⟨ao3, cp3, rfl⟩ := ir3.shape
          clear ir3 hs3 hz3 hl3 hok3 hne
          go_wp2_with fail
          refine (HAW.out w3 B3.out).mono ?_
          rintro e w4 ⟨rfl, b4, hb4⟩
          go_wp2
          go_ret
          exact ⟨rfl, b4⟩
        · clear hno3
          go_wp2_with fail
          refine (HAW.out w3 B3.out).mono ?_
          rintro e w4 ⟨rfl, b4, hb4⟩
          go_wp2
          go_ret
          exact ⟨rfl, b4⟩
  · have h3' : 3000 < (s.length : Int) := by omega
    clear h3
    go_enter Tryz.func4, Tryz.ntmps4
    go_wp2_with fail
    refine (HAW.out w (Below.refl _ _)).mono ?_
    rintro e w2 ⟨rfl, b2, _⟩
    go_wp2
    go_ret
    exact ⟨rfl, b2⟩
end Go.Proofs.YtcoobdbfgiiejaaGreatDoor
