/-
  The contracts of the document's Elem and Parts of layer 3.
  Conditions: the text has fewer than 2^40 bytes.
-/
import Derived.Test.YtcoobdbfgiiejaaGreatDoorKRef
import Derived.Deep.QuietTactic
import Derived.BigQuiet
namespace Go.Proofs.YtcoobdbfgiiejaaGreatDoor
open Go.RowKit
theorem ret_str {a b : ByteArray} (h : a = b) : Ending.returned (.string a) = .returned (.string b) := by rw [h]
theorem elemL_not {l : List UInt8} (h : ¬ (rightB l = true ∧ 1 ≤ deepN l)) : elemL l = [] := by unfold elemL; rw [if_neg h]
theorem dot_stop {l : List UInt8} {k : Nat} (hk : k < l.length) (h : k ≤ dotAt l) (hc : l.getD k 0 = 46) : dotAt l = k := by
  rcases Nat.lt_or_ge k (dotAt l) with h1 | h1
  · have := List.not_of_lt_findIdx h1
    simp [List.getD, List.getElem?_eq_getElem hk] at hc
    simp [hc] at this
  · omega
theorem dot_next {l : List UInt8} {k : Nat} (hk : k < l.length) (h : k ≤ dotAt l) (hc : l.getD k 0 ≠ 46) : k + 1 ≤ dotAt l := by
  rcases Nat.lt_or_ge k (dotAt l) with h1 | h1
  · omega
  · have e : dotAt l = k := by omega
    exfalso
    have hlt : dotAt l < l.length := by omega
    have := List.findIdx_getElem (xs := l) (p := fun c => c == 46) (w := hlt)
    apply hc
    simp only [beq_iff_eq] at this
    rw [List.getD, List.getElem?_eq_getElem hk, Option.getD_some]
    rw [← this]
    congr 1
    exact e.symm
/-- What the document's Parts answers. -/
def RefParts (l : List UInt8) (w : World) (e : Ending) (w' : World) : Prop :=
  (∃ q, w' = w.drewN q) ∧ ((dotAt l < l.length ∧ e = .returned (.tuple #[.string (S (l.take (dotAt l))), .string (S (l.drop (dotAt l + 1))), .bool (partsB l)])) ∨
    (l.length ≤ dotAt l ∧ e = .returned (.tuple #[.string ⟨#[]⟩, .string ⟨#[]⟩, .bool false])))
set_option maxHeartbeats 1000000 in
set_option maxRecDepth 100000 in
theorem refparts_any (l : List UInt8) (w : World) (hlim : l.length ≤ 1099511627776) :
    Calls Tryz.prog 64 #[.string (S l)] w (RefParts l w) := by
  have hsz : ((S l).size : Int) = (l.length : Int) := by rw [S_size]
  obtain ⟨n, hn⟩ : ∃ n, n = l.length := ⟨_, rfl⟩
  rw [← hn] at hsz
  have HN := Lib.hid hn
  have hn1 : n ≤ 1099511627776 := by omega
  have HC : Hid (∀ k w, Calls Tryz.prog 60 #[.string (S (l.take k))] w fun e w' => e = .returned (.bool (classB (l.take k))) ∧ w = w') := fun k w => refclass_any (l.take k) w (by rw [List.length_take]; omega)
  have HMB : Hid (∀ k w, Calls Tryz.prog 86 #[.string (S (l.drop k))] w fun e w' => e = .returned (.bool (memberB (l.drop k))) ∧ w = w') := fun k w => refmember_any (l.drop k) w (by rw [List.length_drop]; omega)
  clear hn hlim
  go_enter Tryz.func64, Tryz.ntmps64
  go_wp2
  go_loop [5] (fun v5 => ∃ k : Nat, k ≤ n ∧ v5 = .int .i64 k ∧ k ≤ dotAt l) (fun v5 => n - (intOf v5).toNat)
  case atStart => exact ⟨0, Nat.zero_le _, rfl, Nat.zero_le _⟩
  case round =>
    obtain ⟨k, hk, rfl, hdot⟩ := hrel
    by_cases hlt : k < n
    · have hkl : k < l.length := by have := HN.out; omega
      obtain ⟨x, hx⟩ : ∃ x, x = l.getD k 0 := ⟨_, rfl⟩
      obtain ⟨c, hc⟩ : ∃ c, c = x.toNat := ⟨_, rfl⟩
      have hget : ∀ h : k < (S l).size, ((S l)[k]'h).toNat = c := fun h => by rw [hc, hx, S_at l k hkl h]
      by_cases hp : x = 46
      · have hd : dotAt l = k := dot_stop hkl hdot (by rw [← hx]; exact hp)
        obtain rfl : c = 46 := by rw [hc, hp]; rfl
        have HD := Lib.hid hd
        clear hd hx hc hp hdot
        have hcut1 := S_take l k
        have hcut2 := S_drop l (k + 1)
        have w1 : IntKind.i64.wrap ((k : Int) + 1) = (k : Int) + 1 := IntWalk.i64_in _ (by omega)
        have w2 : ((k : Int) + 1).toNat = k + 1 := by omega
        have w3 : (0 : Int) ≤ (k : Int) + 1 := by omega
        have w4 : (k : Int) + 1 ≤ (n : Int) := by omega
        have w5 : (0 : Int) ≤ (k : Int) := by omega
        have w6 : (k : Int) ≤ (n : Int) := by omega
        have HK := Lib.hid hkl
        clear hkl
        have HPT := Lib.hid (show partsB l = (classB (l.take k) && memberB (l.drop (k + 1))) by unfold partsB; rw [HD.out, decide_eq_true HK.out, Bool.true_and])
        have hdl : dotAt l < l.length := by rw [HD.out]; exact HK.out
        have HCK := HC.out k
        have HMK := Lib.hid (HMB.out (k + 1))
        cases hcl : classB (l.take k) with
        | true =>
          rw [hcl] at HCK
          rw [hcl, Bool.true_and] at HPT
          have HCT := Lib.hid HCK
          clear hcl HCK HC HMB
          generalize memberB (l.drop (k + 1)) = b at HMK HPT
          go_wp2_with fail
          go_quiet ((first | (go_at_call 60; exact Calls.quiet_of_same ((HCT.out _).mono (fun _ _ h => ⟨h.1, h.2.symm⟩))) | (go_at_call 86; exact Calls.quiet_of_same ((HMK.out _).mono (fun _ _ h => ⟨h.1, h.2.symm⟩)))))
          go_wp2
          go_ret3
          exact ⟨⟨nq, rfl⟩, .inl ⟨hdl, by rw [HD.out, HPT.out]; rfl⟩⟩
        | false =>
          rw [hcl] at HCK
          rw [hcl, Bool.false_and] at HPT
          have HCT := Lib.hid HCK
          clear hcl HCK HC HMB
          go_wp2_with fail
          go_quiet ((first | (go_at_call 60; exact Calls.quiet_of_same ((HCT.out _).mono (fun _ _ h => ⟨h.1, h.2.symm⟩))) | (go_at_call 86; exact Calls.quiet_of_same ((HMK.out _).mono (fun _ _ h => ⟨h.1, h.2.symm⟩)))))
          go_wp2
          go_ret3
          exact ⟨⟨nq, rfl⟩, .inl ⟨hdl, by rw [HD.out, HPT.out]; rfl⟩⟩
      · have hd := dot_next hkl hdot (by rw [← hx]; exact hp)
        have hcb : ((c : Int) == 46) = false := by
          rw [beq_eq_false_iff_ne]
          intro h
          apply hp
          apply UInt8.toNat_inj.1
          rw [← hc]
          show c = 46
          omega
        clear hx hc hp
        go_wp2
        go_round
        case rel => exact ⟨k + 1, by omega, by go_num, hd⟩
        case measure => simp [intOf]; omega
    · have hge : l.length ≤ dotAt l := by have := HN.out; omega
      go_wp2
      go_ret3
      exact ⟨⟨0, rfl⟩, .inr ⟨hge, rfl⟩⟩
end Go.Proofs.YtcoobdbfgiiejaaGreatDoor
