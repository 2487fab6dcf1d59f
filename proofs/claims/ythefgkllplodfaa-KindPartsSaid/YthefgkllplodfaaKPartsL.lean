/-
  KindParts's contract: it answers true at any text, and writes nothing that was there.
  Conditions: none.
-/
import Derived.Test.YthefgkllplodfaaKAwake
import Derived.Test.YthefgkllplodfaaKRef2
namespace Go.Proofs.Ythefgkllplodfaa
open Go.RowKit
theorem dot_split {l : List UInt8} (h : dotAt l < l.length) : l.take (dotAt l) ++ (46 :: l.drop (dotAt l + 1)) = l := by
  have h1 := List.findIdx_getElem (xs := l) (p := fun c => c == 46) (w := h)
  simp only [beq_iff_eq] at h1
  have h2 : l.drop (dotAt l) = 46 :: l.drop (dotAt l + 1) := by
    rw [List.drop_eq_getElem_cons h]
    congr 1
  rw [← h2]
  exact List.take_append_drop _ _
set_option maxHeartbeats 400000 in
set_option maxRecDepth 100000 in
theorem kparts_any (l : List UInt8) (w : World) (hs : l.length ≤ 9223372036854775807) :
    Calls Try.prog 6 #[.string (S l)] w fun e w' => e = .returned (.bool true) ∧ Below w.heap.size w w' := by
  have hsz : ((S l).size : Int) = (l.length : Int) := by rw [S_size]
  have HA := Lib.hid awake_any
  by_cases hbig : 300 < l.length
  · have hz : (300 : Int) < (l.length : Int) := by omega
    go_enter Try.func6, Try.ntmps6
    go_wp2_with (go_at_call 9; refine (HA.out _).mono ?_; rintro e w1 ⟨rfl, hb⟩)
    go_ret
    exact ⟨rfl, hb⟩
  have hz : (l.length : Int) ≤ 300 := by omega
  have hlim : l.length ≤ 1099511627776 := by omega
  have HRP := Lib.hid (fun w => refparts_any l w hlim)
  cases hp : partsB l with
  | true =>
    have hdl : dotAt l < l.length := by
      unfold partsB at hp
      simp at hp
      exact hp.1
    have HK := Lib.hid (fun w => parts_yes l w hlim hp)
    have hcat : (S (l.take (dotAt l)) ++ ⟨#[46]⟩ ++ S (l.drop (dotAt l + 1)) : ByteArray) = S l := by
      rw [show (⟨#[46]⟩ : ByteArray) = S [46] from rfl, S_append, S_append, List.append_assoc]
      exact congrArg S (dot_split hdl)
    have hsz1 : (S (l.take (dotAt l))).size + 1 ≤ 9223372036854775807 := by rw [S_size, List.length_take]; omega
    have hsz2 : (S (l.take (dotAt l)) ++ ⟨#[46]⟩ : ByteArray).size + (S (l.drop (dotAt l + 1))).size ≤ 9223372036854775807 := by
      rw [show (⟨#[46]⟩ : ByteArray) = S [46] from rfl, S_append, S_size, S_size, List.length_append, List.length_take, List.length_drop]
      simp
      omega
    have HP := Lib.hid hp
    have HDL := Lib.hid hdl
    clear hp hdl
    go_enter Try.func6, Try.ntmps6
    go_wp2_with fail
    refine (HK.out _).mono ?_
    rintro e w1 ⟨rfl, c1⟩
    have C1 := Lib.hid c1
    clear c1
    go_wp2_with fail
    refine (HRP.out _).mono ?_
    rintro e w2 ⟨⟨q, rfl⟩, hc⟩
    have C2 := Lib.hid (C1.out.trans ((below_drewN w1 q).mono C1.out.size))
    generalize w1.drewN q = w2 at *
    rcases hc with ⟨_, rfl⟩ | ⟨hd, _⟩
    · rw [HP.out]
      generalize S (l.take (dotAt l)) = A at *
      generalize S (l.drop (dotAt l + 1)) = B at *
      go_wp2_with fail
      refine (HA.out _).mono ?_
      rintro e w3 ⟨rfl, h3⟩
      have C3 := Lib.hid (C2.out.trans (h3.mono C2.out.size))
      clear h3
      go_wp2
      go_ret
      exact ⟨rfl, C3.out⟩
    · have := HDL.out
      omega
  | false =>
    have HK := Lib.hid (fun w => parts_no l w hlim hp)
    have HP := Lib.hid hp
    clear hp
    go_enter Try.func6, Try.ntmps6
    go_wp2_with fail
    refine (HK.out _).mono ?_
    rintro e w1 ⟨rfl, c1⟩
    have C1 := Lib.hid c1
    clear c1
    go_wp2_with fail
    refine (HRP.out _).mono ?_
    rintro e w2 ⟨⟨q, rfl⟩, hc⟩
    have C2 := Lib.hid (C1.out.trans ((below_drewN w1 q).mono C1.out.size))
    generalize w1.drewN q = w2 at *
    rcases hc with ⟨_, rfl⟩ | ⟨_, rfl⟩
    · rw [HP.out]
      go_wp2_with fail
      refine (HA.out _).mono ?_
      rintro e w3 ⟨rfl, h3⟩
      have C3 := Lib.hid (C2.out.trans (h3.mono C2.out.size))
      clear h3
      go_wp2
      go_ret
      exact ⟨rfl, C3.out⟩
    · go_wp2_with fail
      refine (HA.out _).mono ?_
      rintro e w3 ⟨rfl, h3⟩
      have C3 := Lib.hid (C2.out.trans (h3.mono C2.out.size))
      clear h3
      go_wp2
      go_ret
      exact ⟨rfl, C3.out⟩
end Go.Proofs.Ythefgkllplodfaa
