/-
  The walk of the law CodeBoth: what is read as a text, put as bytes, got, and shown, is the text.
  Conditions: the tables and the errors of strconv hold what they hold at the start.
-/
import Derived.Test.YtcoobdbfgiiejaaGreatDoorCF
import Derived.Test.YtcoobdbfgiiejaaGreatDoorCPutsL
import Derived.Test.YtcoobdbfgiiejaaGreatDoorCLaid8
namespace Go.Proofs.YtcoobdbfgiiejaaGreatDoor
open Go.RowKit
theorem text_short (x : Ins) (h : x.ok) (hs : x.s.length ≤ 300) : x.text.length ≤ 308 := by
  have h1 := nameAt_le (idx x.op)
  have h2 := Lib.itoa_length_le x.n h.1.1 h.1.2
  unfold Ins.text argText
  rw [List.length_append, List.length_append]
  split
  · rw [List.length_cons]; simp; omega
  · split
    · rw [List.length_cons]; simp; omega
    · simp; omega
theorem show_short : ∀ (l : List Ins), (∀ x ∈ l, x.ok ∧ x.s.length ≤ 300) → (showL l).length ≤ 308 * l.length
  | [], _ => by simp [showL]
  | x :: l, h => by
    have h1 := show_short l (fun y hy => h y (by simp [hy]))
    have h2 := text_short x (h x (by simp)).1 (h x (by simp)).2
    unfold showL at *
    rw [List.flatMap_cons, List.length_append, List.length_cons]
    omega
set_option maxHeartbeats 4000000 in
set_option maxRecDepth 100000 in
theorem bothLaw_any (sv : Value) (l : List Ins) (w : World) (hT : CT w) (hpe : Pow10 w ∧ EV w) (hs : InsSrc w sv l) (hh : ∀ x ∈ l, x.held) (hn : l.length ≤ 9223372036854775807) :
    Calls Tryz.prog 7 #[sv] w fun e w' => e = .returned (.bool true) ∧ Below w.heap.size w w' := by
  have HT := Lib.hid hT
  have HP := Lib.hid hpe.1
  have HE := Lib.hid hpe.2
  have HS := Lib.hid hs
  obtain ⟨so, n, sc, hsv, hnl⟩ : ∃ so n sc, sv = .slice so n sc ∧ n = l.length := by
    rcases hs with ⟨ao, cp0, rfl, rfl⟩ | ⟨b, o, cap, rfl, _⟩
    · exact ⟨_, _, _, rfl, rfl⟩
    · exact ⟨_, _, _, rfl, rfl⟩
  subst hsv
  have HNL := Lib.hid hnl
  have HH := Lib.hid hh
  have hn' : n ≤ 9223372036854775807 := by omega
  have HFW := Lib.hid (few_any l _ w hs hn)
  have HAW : Hid (∀ W, Below w.heap.size w W → Calls Tryz.prog 9 #[] W fun e w' => e = .returned (.bool true) ∧ Below w.heap.size w w') := Lib.hid (fun W hW => (awake_any W (HT.out.keep hW) (HP.out.keep hW)).mono (fun _ _ h => ⟨h.1, hW.trans (h.2.mono hW.size)⟩))
  clear hT hpe hs hh hn hnl
  go_enter Tryz.func7, Tryz.ntmps7
  go_wp2_with fail
  refine HFW.out.mono ?_
  rintro e w1 ⟨rfl, rfl⟩
  clear HFW
  obtain ⟨fb, hfb⟩ : ∃ fb, fb = fewB l := ⟨_, rfl⟩
  rw [← hfb]
  have HFB := Lib.hid hfb
  clear hfb
  cases fb
  · go_wp2_with fail
    refine (HAW.out w (Below.refl _ _)).mono ?_
    rintro e w2 ⟨rfl, hb2⟩
    go_wp2
    go_ret
    exact ⟨rfl, hb2⟩
  · obtain ⟨h250, hsm⟩ := few_of HFB.out.symm
    have hok : ∀ x ∈ l, x.ok ∧ x.s.length ≤ 300 := fun x hx => ⟨⟨(HH.out x hx).1, by have := (hsm x hx).2; omega⟩, (hsm x hx).2⟩
    have HOK2 := Lib.hid hok
    have HOK : Hid (∀ x ∈ l, x.ok) := Lib.hid (fun x hx => (hok x hx).1)
    clear h250 hsm hok HFB HH
    by_cases h200 : n ≤ 200
    · have h200' : ¬ (200 < (n : Int)) := by omega
      have H200 : Hid (l.length ≤ 200) := Lib.hid (by have := HNL.out; omega)
      clear h200
      have HRA := Lib.hid (refall_any l (.slice so n sc) w HS.out (fun x hx => by have := (HOK.out x hx).2; omega) (by have := H200.out; omega))
      by_cases hz : allE l = 0
      · rw [hz] at HRA
        have HZ := Lib.hid hz
        clear hz
        go_wp2_with fail
        refine HRA.out.mono ?_
        rintro e w2 ⟨rfl, hb2⟩
        obtain ⟨vc, wc, hrun, irc, bc⟩ := copy_ins w2 22 (.slice so n sc) l (HS.out.keep hb2) (by have := H200.out; omega)
        have HRUN := Lib.hid hrun
        have IRC := Lib.hid irc
        have BC : Hid (Below w.heap.size w wc) := Lib.hid (hb2.trans (bc.mono hb2.size))
        obtain ⟨aoc, cpc, rfl⟩ := irc.shape
        clear hrun irc bc hb2 HRA
        go_wp2_with (at_builtin; refine wpList_append_eq rfl _ _ 22 rfl _ _ _ _ rfl rfl HRUN.out ?_)
        refine (show_any l _ wc (HT.out.keep BC.out) (HP.out.keep BC.out) IRC.out.src (by have := H200.out; omega) HOK.out).mono ?_
        rintro e w3 ⟨rfl, hb3⟩
        rw [HZ.out, if_pos rfl]
        have B3 : Hid (Below w.heap.size w w3) := Lib.hid (BC.out.trans (hb3.mono BC.out.size))
        have HLIM : Hid ((showL l).length ≤ 65536) := Lib.hid (by
          have h1 := show_short l HOK2.out
          have h2 := H200.out
          omega)
        have HLE : Hid (∀ x ∈ l, x.e = 0) := Lib.hid (allE_mem l HZ.out)
        have HLS : Hid (linesL (showL l) = l.map Ins.text) := Lib.hid (lines_show l HLE.out)
        clear hb3 HRUN IRC BC
        generalize showL l = TX at HLIM HLS ⊢
        go_wp2_with fail
        refine (cread_any TX w3 (HT.out.keep B3.out) (HP.out.keep B3.out) (HE.out.keep B3.out) HLIM.out).mono ?_
        rintro e w4 ⟨hb4, hres⟩
        rcases hres with ⟨vs, m, rfl, ir4, hm, hmk⟩ | ⟨_, x, hx, hno⟩
        · have B4 : Hid (Below w.heap.size w w4) := Lib.hid (B3.out.trans (hb4.mono B3.out.size))
          have HML : Hid (m.length ≤ 200) := Lib.hid (by
            have h1 := congrArg List.length (hm.trans HLS.out)
            rw [List.length_map, List.length_map] at h1
            have h2 := H200.out
            omega)
          have HMS : Hid (showL m = TX) := Lib.hid (by
            unfold showL
            rw [List.flatMap_def, hm]
            exact flatten_lines _ TX (Nat.le_refl _))
          have HMZ : Hid (allE m = 0) := Lib.hid (allE_all m (fun x hx => (hmk x hx).2))
          have HMO : Hid (∀ x ∈ m, x.ok) := Lib.hid (fun x hx => (hmk x hx).1)
          have IR4 := Lib.hid ir4
          obtain ⟨ao4, cp4, rfl⟩ := ir4.shape
          clear ir4 hm hmk hb4
          go_wp2_with fail
          refine (put_any m _ w4 (HT.out.keep B4.out) IR4.out.src (by have := HML.out; omega) HMO.out).mono ?_
          rintro e w5 ⟨hy, _⟩
          obtain ⟨v5, rfl, s5⟩ := hy HMZ.out
          obtain ⟨ao5, m5, c5, rfl⟩ := row_shape s5.row
          have S5 := Lib.hid s5
          have B5 : Hid (Below w.heap.size w w5) := Lib.hid (B4.out.trans (s5.bel.mono B4.out.size))
          clear hy s5
          go_wp2_with fail
          refine (get_any _ (putL m) w5 (.ofRow S5.out.row) (HT.out.keep B5.out) (by
            have h1 := insBytes_le m HMO.out
            have h2 : (Lib.uvarint m.length).length ≤ 10 := Lib.uvarint_length64 (by have := HML.out; omega)
            have h3 := HML.out
            unfold putL
            rw [List.length_append]
            omega)).mono ?_
          rintro e w6 ⟨hb6, hres⟩
          have B6 : Hid (Below w.heap.size w w6) := Lib.hid (B5.out.trans (hb6.mono B5.out.size))
          rcases hres with ⟨vs6, m6, rfl, ir6, _, _, _, _, hun⟩ | ⟨_, hno⟩
          · have hmm : m6 = m := hun m HMO.out HMZ.out HML.out rfl
            subst hmm
            have IR6 := Lib.hid ir6
            obtain ⟨ao6, cp6, rfl⟩ := ir6.shape
            clear ir6 hun hb6
            go_wp2_with fail
            refine (show_any m6 _ w6 (HT.out.keep B6.out) (HP.out.keep B6.out) IR6.out.src (by have := HML.out; omega) HMO.out).mono ?_
            rintro e w7 ⟨rfl, hb7⟩
            rw [HMZ.out, if_pos rfl, HMS.out]
            have B7 : Hid (Below w.heap.size w w7) := Lib.hid (B6.out.trans (hb7.mono B6.out.size))
            clear hb7
            go_wp2_with fail
            refine (HAW.out w7 B7.out).mono ?_
            rintro e w8 ⟨rfl, hb8⟩
            go_wp2
            go_ret
            exact ⟨by simp, hb8⟩
          · exact absurd rfl (hno m HMO.out HMZ.out HML.out)
        · exfalso
          rw [HLS.out] at hx
          obtain ⟨y, hy, rfl⟩ := List.mem_map.1 hx
          exact hno y (HOK.out y hy) (HLE.out y hy) rfl
      · have hzb : (((allE l : Nat) : Int) != 0) = true := by rw [bne_iff_ne]; omega
        generalize allE l = E at hzb HRA
        clear hz
        go_wp2_with (go_at_call 11; refine HRA.out.mono ?_; rintro e w2 ⟨rfl, hb2⟩)
        refine (HAW.out w2 hb2).mono ?_
        rintro e w3 ⟨rfl, hb3⟩
        go_wp2
        go_ret
        exact ⟨rfl, hb3⟩
    · have h200' : 200 < (n : Int) := by omega
      clear h200
      go_wp2_with fail
      refine (HAW.out w (Below.refl _ _)).mono ?_
      rintro e w2 ⟨rfl, hb2⟩
      go_wp2
      go_ret
      exact ⟨rfl, hb2⟩
end Go.Proofs.YtcoobdbfgiiejaaGreatDoor
