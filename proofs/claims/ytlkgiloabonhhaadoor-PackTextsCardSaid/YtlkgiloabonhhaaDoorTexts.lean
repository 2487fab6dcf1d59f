/-
  PackTexts's contract: it answers true at any text, and writes nothing that was there.
  Conditions: unicode/utf8's two tables hold what they hold at the start.
-/
import Derived.Test.YtlkgiloabonhhaaDoorAwake
import Derived.Test.YtlkgiloabonhhaaDoorRefWhole
import Derived.Test.YtlkgiloabonhhaaDoorRound
namespace Go.Proofs.YtlkgiloabonhhaaDoor
open Go.RowKit Go.Lib
set_option maxHeartbeats 4000000 in
set_option maxRecDepth 100000 in
theorem texts_any (s : List UInt8) (w : World) (hT : Tabs w) (hs : s.length ≤ 9223372036854775807) :
    Calls Tryd.prog 8 #[.string (S s)] w fun e w' => e = .returned (.bool true) ∧ Below w.heap.size w w' := by
  have hsz : ((S s).size : Int) = (s.length : Int) := by rw [S_size]
  by_cases hbig : 5000 < s.length
  · have hz : (5000 : Int) < (s.length : Int) := by omega
    have HA := Lib.hid (awake_any w hT)
    go_enter Tryd.func8, Tryd.ntmps8
    go_wp2_with (go_at_call 11; refine HA.out.mono ?_; rintro e w1 ⟨rfl, hb⟩)
    go_ret
    exact ⟨rfl, hb⟩
  have hz : (s.length : Int) ≤ 5000 := by omega
  have HT := Lib.hid hT
  have HX := Lib.hid (reftext_any s w (by omega))
  obtain ⟨l, hl⟩ : ∃ l, l = textBytes s := ⟨_, rfl⟩
  rw [← hl] at HX
  have hll : l.length = (Lib.uvarint s.length).length + s.length := by rw [hl]; simp [textBytes]
  have hl10 := Lib.uvarint_length64 (x := s.length) (by omega)
  have hnum : numFrom 0 0 (l.drop 0) = (0, s.length, (Lib.uvarint s.length).length) := by rw [hl]; exact num_var s.length (by omega) s
  have htake : (l.drop (0 + (Lib.uvarint s.length).length)).take s.length = s := by rw [hl]; simp [textBytes]
  obtain ⟨K, hK⟩ : ∃ K, K = (Lib.uvarint s.length).length := ⟨_, rfl⟩
  rw [← hK] at hnum htake hll hl10
  have HL := Lib.hid hll
  have HN := Lib.hid hnum
  have HK := Lib.hid htake
  have hlen : l.length ≤ 5010 := by omega
  have HW : Hid (∀ w, Calls Tryd.prog 32 #[.string (S s)] w fun e w' => e = .returned (.bool (validD s)) ∧ ∃ q, w' = w.drewN q) := fun w => whole_any s w (by omega)
  clear hl hll hl10 hnum htake hK hT
  go_enter Tryd.func8, Tryd.ntmps8
  go_wp2_with fail
  refine HX.out.mono ?_
  rintro e w1 ⟨rfl, b1⟩
  have hcv := conv_back l w1
  have hsrc := Lib.hid (src_back l w1 (grownCap w1 l.length 0 5))
  have b2 := b1.trans ((below_back l w1).mono b1.size)
  generalize hw2 : Lib.bytesWorld w1 5 (S l) = w2 at hcv hsrc b2
  clear hw2
  go_wp2_with fail
  refine (rs_read b2 _ l hsrc.out (by omega)).mono ?_
  rintro e w3 ⟨br, vr, rfl, r3, _⟩
  clear hcv hsrc b2 b1
  go_wp2_with fail
  refine (awake_any w3 (HT.out.below r3.bel)).mono ?_
  rintro e w4 ⟨rfl, b4⟩
  have r4 := r3.keep b4
  clear r3 b4
  by_cases h4096 : 4096 < s.length
  · have hy : (4096 : Int) < (s.length : Int) := by omega
    have e0 : (S ([] : List UInt8)) = ⟨#[]⟩ := rfl
    have kT := rtext_big br vr l 0 s.length K w4 r4.rd HN.out h4096
    rw [e0] at kT
    have KT := Lib.hid kT
    clear kT e0
    go_wp2_with fail
    refine KT.out.mono ?_
    rintro e w5 ⟨rfl, hon5, hrd5⟩
    have r5 := r4.step hon5 hrd5
    go_wp2_with fail
    refine (end_bad br vr l 0 12 w5 r5.rd (by decide)).mono ?_
    rintro e w6 ⟨rfl, q6, rfl⟩
    have r6 := r5.drewN q6
    go_wp2
    go_ret
    exact ⟨rfl, r6.bel⟩
  have hy : (s.length : Int) ≤ 4096 := by omega
  cases hval : validD s with
  | true =>
    have kT := rtext_ok br vr l 0 s.length K w4 r4.rd (HT.out.below r4.bel) (r4.ne HT.out).1 (r4.ne HT.out).2 HN.out (by omega) (by have := HL.out; omega) (by rw [HK.out]; exact hval)
    rw [HK.out] at kT
    have KT := Lib.hid kT
    have HVAL := Lib.hid hval
    have hfin : 0 + K + s.length = l.length := by have := HL.out; omega
    have HF := Lib.hid hfin
    clear kT hval hfin
    go_wp2_with fail
    refine KT.out.mono ?_
    rintro e w5 ⟨rfl, hon5, hrd5⟩
    have r5 := r4.step hon5 hrd5
    rw [HF.out] at r5
    clear hon5 hrd5
    go_wp2_with fail
    refine (end_ok br vr l w5 r5.rd).mono ?_
    rintro e w6 ⟨rfl, q6, rfl⟩
    clear r4
    go_wp2_with fail
    refine (HW.out _).mono ?_
    rintro e w7 ⟨rfl, q7, rfl⟩
    rw [HVAL.out]
    have r7 := r5.drewN (q6 + q7)
    go_wp2
    go_ret
    exact ⟨rfl, r7.bel⟩
  | false =>
    have e0 : (S ([] : List UInt8)) = ⟨#[]⟩ := rfl
    have kT := rtext_form br vr l 0 s.length K w4 r4.rd (HT.out.below r4.bel) (r4.ne HT.out).1 (r4.ne HT.out).2 HN.out (by omega) (by have := HL.out; omega) (by rw [HK.out]; exact hval)
    rw [e0] at kT
    have KT := Lib.hid kT
    have HVAL := Lib.hid hval
    clear kT hval e0
    go_wp2_with fail
    refine KT.out.mono ?_
    rintro e w5 ⟨rfl, hon5, hrd5⟩
    have r5 := r4.step hon5 hrd5
    go_wp2_with fail
    refine (end_bad br vr l 0 11 w5 r5.rd (by decide)).mono ?_
    rintro e w6 ⟨rfl, q6, rfl⟩
    go_wp2_with fail
    refine (HW.out _).mono ?_
    rintro e w7 ⟨rfl, q7, rfl⟩
    rw [HVAL.out]
    have r7 := r5.drewN (q6 + q7)
    go_wp2
    go_ret
    exact ⟨rfl, r7.bel⟩
end Go.Proofs.YtlkgiloabonhhaaDoor
