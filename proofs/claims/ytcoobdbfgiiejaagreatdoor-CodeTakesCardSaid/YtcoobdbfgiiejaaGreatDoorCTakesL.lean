/-
  The walk of the law CodeTakes: a reader goes on behind instructions.
  Conditions: the tables hold what they hold at the start.
-/
import Derived.Test.YtcoobdbfgiiejaaGreatDoorCPutsL
namespace Go.Proofs.YtcoobdbfgiiejaaGreatDoor
open Go.RowKit
set_option maxHeartbeats 4000000 in
set_option maxRecDepth 100000 in
theorem takesLaw_any (sv : Value) (l : List Ins) (more : Nat) (w : World) (hT : CT w) (hp : Pow10 w) (hs : InsSrc w sv l) (hh : ∀ x ∈ l, x.held) (hn : l.length ≤ 9223372036854775807) (hmore : more < 18446744073709551616) :
    Calls Tryz.prog 5 #[sv, .int .u64 (more : Nat)] w fun e w' => e = .returned (.bool true) ∧ Below w.heap.size w w' := by
  have HT := Lib.hid hT
  have HP := Lib.hid hp
  have HS := Lib.hid hs
  obtain ⟨so, n, sc, hsv, hnl⟩ : ∃ so n sc, sv = .slice so n sc ∧ n = l.length := by
    rcases hs with ⟨ao, cp0, rfl, rfl⟩ | ⟨b, o, cap, rfl, _⟩
    · exact ⟨_, _, _, rfl, rfl⟩
    · exact ⟨_, _, _, rfl, rfl⟩
  subst hsv
  have HNL := Lib.hid hnl
  have HH := Lib.hid hh
  have HMR := Lib.hid hmore
  have hn' : n ≤ 9223372036854775807 := by omega
  have HFW := Lib.hid (few_any l _ w hs hn)
  have HAW : Hid (∀ W, Below w.heap.size w W → Calls Tryz.prog 9 #[] W fun e w' => e = .returned (.bool true) ∧ Below w.heap.size w w' ∧ Below W.heap.size W w') := Lib.hid (fun W hW => (awake_any W (HT.out.keep hW) (HP.out.keep hW)).mono (fun _ _ h => ⟨h.1, hW.trans (h.2.mono hW.size), h.2⟩))
  clear hT hp hs hh hn hnl hmore
  go_enter Tryz.func5, Tryz.ntmps5
  go_wp2_with fail
  refine HFW.out.mono ?_
  rintro e w1 ⟨rfl, rfl⟩
  clear HFW
  obtain ⟨fb, hfb⟩ : ∃ fb, fb = fewB l := ⟨_, rfl⟩
  rw [← hfb]
  have HFB := Lib.hid hfb
  clear hfb
  cases fb
  · go_wp2_with fail
    refine (HAW.out w (Below.refl _ _)).mono ?_
    rintro e w2 ⟨rfl, hb2, _⟩
    go_wp2
    go_ret
    exact ⟨rfl, hb2⟩
  · obtain ⟨h250, hsm⟩ := few_of HFB.out.symm
    have hok : ∀ x ∈ l, x.ok := fun x hx => ⟨(HH.out x hx).1, by have := (hsm x hx).2; omega⟩
    have HOK := Lib.hid hok
    clear hsm hok HH HFB
    by_cases h200 : n ≤ 200
    · have h200' : ¬ (200 < (n : Int)) := by omega
      have hl200 : l.length ≤ 200 := by have := HNL.out; omega
      have H200 := Lib.hid hl200
      clear h250 hl200
      have HRA := Lib.hid (refall_any l _ w HS.out (fun x hx => by have := (HOK.out x hx).2; omega) (by have := H200.out; omega))
      by_cases hz : allE l = 0
      · rw [hz] at HRA
        have HZ := Lib.hid hz
        clear hz
        go_wp2_with fail
        refine HRA.out.mono ?_
        rintro e w2 ⟨rfl, b2⟩
        have B2 := Lib.hid b2
        clear b2 HRA
        go_wp2_with fail
        refine (refput_any l _ w2 (HS.out.keep B2.out) HZ.out HOK.out (by have := H200.out; omega)).mono ?_
        rintro e w3 ⟨rfl, hb3⟩
        have b3 : Below w.heap.size w w3 := B2.out.trans (hb3.mono B2.out.size)
        have B3 := Lib.hid b3
        clear hb3 b3 B2
        go_wp2_with fail
        refine (refvar_any more HMR.out w3).mono ?_
        rintro e w4 ⟨rfl, hb4⟩
        have b4 : Below w.heap.size w w4 := B3.out.trans (hb4.mono B3.out.size)
        have B4 := Lib.hid b4
        clear hb4 b4 B3
        have hpl : (putL l).length ≤ 1099511627776 - 10 := by
          have h1 := insBytes_le l HOK.out
          have h2 : (Lib.uvarint l.length).length ≤ 10 := Lib.uvarint_length64 (by have := H200.out; omega)
          have h3 := H200.out
          unfold putL
          rw [List.length_append]
          omega
        have hul : (Lib.uvarint more).length ≤ 10 := Lib.uvarint_length64 HMR.out
        obtain ⟨hc1, hd1⟩ := cat_ok (putL l) (Lib.uvarint more) (by omega)
        have HPL : Hid ((putL l ++ Lib.uvarint more).length ≤ 1099511627776) := Lib.hid (by rw [List.length_append]; omega)
        obtain ⟨LL, hLL⟩ : ∃ LL, LL = putL l ++ Lib.uvarint more := ⟨_, rfl⟩
        rw [← hLL] at hc1 HPL
        have HLL := Lib.hid hLL
        clear hpl hul hLL
        have hcb := conv_back LL w4
        have hsrc := src_back LL w4 (grownCap w4 LL.length 0 5)
        have hbb := below_back LL w4
        generalize grownCap w4 LL.length 0 5 = cc at hcb hsrc
        generalize Lib.bytesWorld w4 5 (S LL) = w5 at hcb hsrc hbb
        have b5 : Below w.heap.size w w5 := B4.out.trans (hbb.mono B4.out.size)
        have HSRC := Lib.hid hsrc
        have B5 := Lib.hid b5
        clear hsrc hbb b5 B4
        go_wp2_with fail
        refine (rs_read B5.out _ LL HSRC.out (by have := HPL.out; omega)).mono ?_
        rintro e w6 ⟨rb, rv, rfl, r6, hb6⟩
        have R6 := Lib.hid r6
        clear r6 hb6 hcb hc1 hd1 HSRC B5
        go_wp2_with fail
        refine (HAW.out w6 R6.out.bel).mono ?_
        rintro e w7 ⟨rfl, _, hb7⟩
        have r7 := R6.out.keep hb7
        have R7 := Lib.hid r7
        clear hb7 r7 R6
        go_wp2_with fail
        refine (take_any R7.out HT.out).mono ?_
        rintro e w8 ⟨vs, m, i8, err8, rfl, ir8, _, _, t8, g8⟩
        obtain ⟨h1, h2, h3⟩ := g8 l (Lib.uvarint more) rfl HOK.out HZ.out H200.out (by rw [List.drop_zero]; exact HLL.out)
        subst h1
        subst h3
        have IR8 := Lib.hid ir8
        have T8 := Lib.hid t8
        have H2 := Lib.hid h2
        have hlt7 : rb < w7.heap.size := t8.blt
        obtain ⟨ao8, cp8, rfl⟩ := ir8.shape
        clear ir8 t8 g8 h2
        go_wp2_with fail
        refine (rnum_g T8.out.rs.rd).mono ?_
        rintro e w9 ⟨V, i9, err9, hV, ⟨rfl, ho9, rd9⟩, g9⟩
        obtain ⟨h4, h5, h6⟩ := g9 more [] rfl HMR.out (by rw [HLL.out, H2.out, Nat.zero_add, List.drop_left, List.append_nil])
        subst h4
        subst h6
        have t9 := T8.out.got ho9 rd9
        have ir9 := IR8.out.past ho9 hlt7
        have hend : i9 = LL.length := by rw [h5, H2.out, HLL.out, List.length_append, Nat.zero_add]
        subst hend
        have T9 := Lib.hid t9
        have IR9 := Lib.hid ir9
        clear ho9 rd9 g9 t9 ir9 h5 hV T8 IR8
        go_wp2_with fail
        refine (end_ok rb rv LL w9 T9.out.rs.rd).mono ?_
        rintro e wa ⟨rfl, q, hwa⟩
        have ba : Below w9.heap.size w9 wa := by rw [hwa]; exact below_drewN w9 q
        have bw : Below w.heap.size w wa := T9.out.rs.bel.trans (ba.mono T9.out.rs.bel.size)
        have ira := IR9.out.keep ba
        have BW := Lib.hid bw
        have IRA := Lib.hid ira
        have HSM := Lib.hid (refsame_any m (.slice so n sc) _ wa (HS.out.keep BW.out) IRA.out.src (by have := H200.out; omega))
        clear ba bw ira hwa
        go_wp2_with (go_at_call 14; refine HSM.out.mono ?_; rintro e wb ⟨rfl, hbb⟩)
        go_ret
        exact ⟨rfl, BW.out.trans (hbb.mono BW.out.size)⟩
      · have hzb : (((allE l : Nat) : Int) != 0) = true := by rw [bne_iff_ne]; omega
        clear hz
        generalize allE l = E at HRA hzb
        go_wp2_with fail
        refine HRA.out.mono ?_
        rintro e w2 ⟨rfl, b2⟩
        go_wp2_with fail
        refine (HAW.out w2 b2).mono ?_
        rintro e w3 ⟨rfl, b3, _⟩
        go_wp2
        go_ret
        exact ⟨rfl, b3⟩
    · have h200' : 200 < (n : Int) := by omega
      clear h250
      go_wp2_with fail
      refine (HAW.out w (Below.refl _ _)).mono ?_
      rintro e w2 ⟨rfl, hb2, _⟩
      go_wp2
      go_ret
      exact ⟨rfl, hb2⟩
end Go.Proofs.YtcoobdbfgiiejaaGreatDoor
