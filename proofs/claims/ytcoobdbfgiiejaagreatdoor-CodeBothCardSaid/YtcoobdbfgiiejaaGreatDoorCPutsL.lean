/-
  The walk of the law CodePuts: instructions are the document's bytes, and themselves again, or may not be.
  Conditions: the tables hold what they hold at the start.
-/
import Derived.Test.YtcoobdbfgiiejaaGreatDoorCE
import Derived.Test.YtcoobdbfgiiejaaGreatDoorCB
import Derived.Test.YtcoobdbfgiiejaaGreatDoorCD
import Derived.Deep.RegionHeld
namespace Go.Proofs.YtcoobdbfgiiejaaGreatDoor
open Go.RowKit
theorem few_of {l : List Ins} (h : fewB l = true) : l.length ≤ 250 ∧ ∀ x ∈ l, x.op.length ≤ 300 ∧ x.s.length ≤ 300 := by
  unfold fewB at h
  rw [Bool.and_eq_true, decide_eq_true_eq, List.all_eq_true] at h
  refine ⟨h.1, fun x hx => ?_⟩
  have := h.2 x hx
  unfold Ins.short at this
  simpa using this
theorem putL_len {a b : List Ins} (h : putL a = putL b) (ha : a.length ≤ 1048576) (hb : b.length ≤ 1048576) : a.length = b.length := by
  have h1 := num_var a.length (by omega) (a.flatMap Ins.bytes)
  have h2 := num_var b.length (by omega) (b.flatMap Ins.bytes)
  unfold putL at h
  rw [h, h2] at h1
  have := congrArg (fun z => z.2.1) h1
  exact this.symm
set_option maxHeartbeats 4000000 in
set_option maxRecDepth 100000 in
theorem putsLaw_any (sv : Value) (l : List Ins) (w : World) (hT : CT w) (hp : Pow10 w) (hs : InsSrc w sv l) (hh : ∀ x ∈ l, x.held) (hn : l.length ≤ 9223372036854775807) :
    Calls Tryz.prog 3 #[sv] w fun e w' => e = .returned (.bool true) ∧ Below w.heap.size w w' := by
  have HT := Lib.hid hT
  have HP := Lib.hid hp
  have HS := Lib.hid hs
  obtain ⟨so, n, sc, hsv, hnl⟩ : ∃ so n sc, sv = .slice so n sc ∧ n = l.length := by
    rcases hs with ⟨ao, cp0, rfl, rfl⟩ | ⟨b, o, cap, rfl, _⟩
    · exact ⟨_, _, _, rfl, rfl⟩
    · exact ⟨_, _, _, rfl, rfl⟩
  subst hsv
  have HNL := Lib.hid hnl
  have HH := Lib.hid hh
  have hn' : n ≤ 9223372036854775807 := by omega
  have HFW := Lib.hid (few_any l _ w hs hn)
  clear hT hp hs hh hn hnl
  go_enter Tryz.func3, Tryz.ntmps3
  go_wp2_with fail
  refine HFW.out.mono ?_
  rintro e w1 ⟨rfl, rfl⟩
  clear HFW
  obtain ⟨fb, hfb⟩ : ∃ fb, fb = fewB l := ⟨_, rfl⟩
  rw [← hfb]
  have HFB := Lib.hid hfb
  clear hfb
  cases fb
  · go_wp2_with fail
    refine (awake_any w HT.out HP.out).mono ?_
    rintro e w2 ⟨rfl, hb2⟩
    go_wp2
    go_ret
    exact ⟨rfl, hb2⟩
  · obtain ⟨h250, hsm⟩ := few_of HFB.out.symm
    have hok : ∀ x ∈ l, x.ok := fun x hx => ⟨(HH.out x hx).1, by have := (hsm x hx).2; omega⟩
    have HOK := Lib.hid hok
    have h250' : n ≤ 250 := by have := HNL.out; omega
    have H250 := Lib.hid h250
    obtain ⟨vc, wc, hrun, irc, bc⟩ := copy_ins w 22 (.slice so n sc) l HS.out (by omega)
    have HRUN := Lib.hid hrun
    have IRC := Lib.hid irc
    have BC := Lib.hid bc
    obtain ⟨aoc, cpc, rfl⟩ := irc.shape
    clear hrun irc bc hsm hok h250 HFB HH
    go_wp2_with (at_builtin; refine wpList_append_eq rfl _ _ 22 rfl _ _ _ _ rfl rfl HRUN.out ?_)
    refine (put_any l _ wc (HT.out.keep BC.out) IRC.out.src (by have := H250.out; omega) HOK.out).mono ?_
    rintro e w3 ⟨hy, hnz⟩
    by_cases hz : allE l = 0
    · obtain ⟨v3, rfl, s3⟩ := hy hz
      obtain ⟨ao3, m3, c3, rfl⟩ := row_shape s3.row
      have b3 : Below w.heap.size w w3 := BC.out.trans (s3.bel.mono BC.out.size)
      have S3 := Lib.hid s3
      have B3 := Lib.hid b3
      have HZ := Lib.hid hz
      clear hy hnz s3 b3 hz HRUN IRC
      go_wp2_with fail
      have hra := refall_any l _ w3 (HS.out.keep B3.out) (fun x hx => by have := (HOK.out x hx).2; omega) (by have := H250.out; omega)
      rw [HZ.out] at hra
      refine hra.mono ?_
      clear hra
      rintro e w4 ⟨rfl, hb4⟩
      have b4 : Below w.heap.size w w4 := B3.out.trans (hb4.mono B3.out.size)
      have s4 := S3.out.keep hb4
      have B4 := Lib.hid b4
      have S4 := Lib.hid s4
      clear hb4 b4 s4 S3 B3
      go_wp2_with fail
      have HCV : Hid (∀ W, Below w4.heap.size w4 W → Sem.run Tryz.prog (convert 25 9 (.slice ao3 m3 c3)) W = .ok (.string (S (putL l))) W) := Lib.hid (fun W hW => conv_owned (S4.out.keep hW).row)
      have HA : Hid (∀ W, Below w4.heap.size w4 W → Calls Tryz.prog 9 #[] W fun e w' => e = .returned (.bool true) ∧ Below w4.heap.size w4 w') := Lib.hid (fun W hW => by
        have hb : Below w.heap.size w W := B4.out.trans (hW.mono B4.out.size)
        exact (awake_any W (HT.out.keep hb) (HP.out.keep hb)).mono (fun _ _ h => ⟨h.1, hW.trans (h.2.mono hW.size)⟩))
      have HRP : Hid (∀ W, Below w4.heap.size w4 W → Calls Tryz.prog 12 #[.slice so n sc] W fun e w' => e = .returned (.string (S (putL l))) ∧ Below w4.heap.size w4 w') := Lib.hid (fun W hW => by
        have hb : Below w.heap.size w W := B4.out.trans (hW.mono B4.out.size)
        exact (refput_any l _ W (HS.out.keep hb) HZ.out HOK.out (by have := H250.out; omega)).mono (fun _ _ h => ⟨h.1, hW.trans (h.2.mono hW.size)⟩))
      first
      | (go_region_held (fun W => Sem.run Tryz.prog (convert 25 9 (.slice ao3 m3 c3)) W = .ok (.string (S (putL l))) W) (first | with_reducible exact HCV.out _ b2 | with_reducible exact HCV.out _ b1 | with_reducible exact HCV.out _ ((Below.refl _ _).drew))
          (first | (go_at_call 9; refine (HA.out _ (by exact (Below.refl _ _).drew)).mono ?_; rintro e wA ⟨rfl, b1⟩) | (go_at_call 12; refine (HRP.out _ (by exact b1)).mono ?_; rintro e wB ⟨rfl, b2⟩)))
      | fail
      have s5 := S4.out.keep b2
      have b5 : Below w.heap.size w wB := B4.out.trans (b2.mono B4.out.size)
      have S5 := Lib.hid s5
      have B5 := Lib.hid b5
      clear s5 b5 b1 b2 HCV HA HRP S4
      go_wp2_with fail
      refine (get_any _ (putL l) wB (.ofRow S5.out.row) (HT.out.keep B5.out) (by
        have h1 := insBytes_le l HOK.out
        have h2 : (Lib.uvarint l.length).length ≤ 10 := Lib.uvarint_length64 (by have := H250.out; omega)
        have h3 := H250.out
        unfold putL
        rw [List.length_append]
        omega)).mono ?_
      rintro e w6 ⟨hb6, hres⟩
      have b6 : Below w.heap.size w w6 := B5.out.trans (hb6.mono B5.out.size)
      have B6 := Lib.hid b6
      clear hb6 b6
      by_cases h200 : n ≤ 200
      · have h200' : ¬ (200 < (n : Int)) := by omega
        have hl200 : l.length ≤ 200 := by have := HNL.out; omega
        rcases hres with ⟨vs, m, rfl, ir6, _, _, _, _, hun⟩ | ⟨rfl, hno⟩
        · obtain rfl := hun l HOK.out HZ.out hl200 rfl
          have IR6 := Lib.hid ir6
          have HSM := Lib.hid (refsame_any m (.slice so n sc) vs w6 (HS.out.keep B6.out) IR6.out.src (by omega))
          clear ir6 hun
          go_wp2_with (go_at_call 14; refine HSM.out.mono ?_; rintro e w7 ⟨rfl, hb7⟩)
          go_ret
          exact ⟨rfl, B6.out.trans (hb7.mono B6.out.size)⟩
        · exact absurd rfl (hno l HOK.out HZ.out hl200)
      · have h200' : 200 < (n : Int) := by omega
        rcases hres with ⟨vs, m, rfl, ir6, _, hpl, hm, _, _⟩ | ⟨rfl, hno⟩
        · have := putL_len hpl (by omega) (by have := H250.out; omega)
          have := HNL.out
          omega
        · clear hno
          go_wp2
          go_ret
          exact ⟨rfl, B6.out⟩
    · obtain ⟨rfl, hb3⟩ := hnz hz
      have b3 : Below w.heap.size w w3 := BC.out.trans (hb3.mono BC.out.size)
      have B3 := Lib.hid b3
      have HRA := Lib.hid (refall_any l _ w3 (HS.out.keep B3.out) (fun x hx => by have := (HOK.out x hx).2; omega) (by have := H250.out; omega))
      have hzb : (((allE l : Nat) : Int) != 0) = true := by rw [bne_iff_ne]; omega
      clear hy hnz hb3 b3 hz HRUN IRC
      generalize allE l = E at HRA hzb ⊢
      go_wp2_with fail
      refine HRA.out.mono ?_
      rintro e w4 ⟨rfl, hb4⟩
      have b4 : Below w.heap.size w w4 := B3.out.trans (hb4.mono B3.out.size)
      have B4 := Lib.hid b4
      clear hb4 b4
      go_wp2_with fail
      refine (awake_any w4 (HT.out.keep B4.out) (HP.out.keep B4.out)).mono ?_
      rintro e w5 ⟨rfl, hb5⟩
      have b5 : Below w.heap.size w w5 := B4.out.trans (hb5.mono B4.out.size)
      clear hb5
      go_wp2
      go_ret
      exact ⟨rfl, b5⟩
end Go.Proofs.YtcoobdbfgiiejaaGreatDoor
