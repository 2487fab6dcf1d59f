/-
  The contracts of the document's Name, Class, Member, Plain, Deep, Right, Elem and Parts of layer 3: each returns what the lists of bytes say, and leaves the world alone.
  Conditions: the text has fewer than 2^40 bytes.
-/
import Derived.Test.YtpincofjopmaaaaGreatDoorM01
import Derived.Test.YtpincofjopmaaaaGreatDoorM02
import Derived.Test.YtpincofjopmaaaaGreatDoorProg
import Derived.IntWalk
namespace Go.Proofs.YtpincofjopmaaaaGreatDoor
open Go.RowKit
theorem ret_bool {a b : Bool} (h : a = b) : Ending.returned (.bool a) = .returned (.bool b) := by rw [h]
theorem okAt_yes {k : Nat} {c : UInt8} (h : (97 ≤ c.toNat ∧ c.toNat ≤ 122) ∨ (65 ≤ c.toNat ∧ c.toNat ≤ 90) ∨ (k ≠ 0 ∧ 48 ≤ c.toNat ∧ c.toNat ≤ 57)) : okAt k c = true := by
  unfold okAt letterB digitB
  simp only [Bool.or_eq_true, Bool.and_eq_true, decide_eq_true_eq]
  omega
theorem okAt_no {k : Nat} {c : UInt8} (h : ¬ ((97 ≤ c.toNat ∧ c.toNat ≤ 122) ∨ (65 ≤ c.toNat ∧ c.toNat ≤ 90) ∨ (k ≠ 0 ∧ 48 ≤ c.toNat ∧ c.toNat ≤ 57))) : okAt k c = false := by
  cases hk : okAt k c with
  | false => rfl
  | true =>
    exfalso
    apply h
    unfold okAt letterB digitB at hk
    simp only [Bool.or_eq_true, Bool.and_eq_true, decide_eq_true_eq] at hk
    omega
theorem nameB_bad {l : List UInt8} {k : Nat} (hk : k < l.length) (h : okAt k (l.getD k 0) = false) : nameB l = false := by
  have h1 : okTo l (k + 1) = false := by rw [okTo_succ, h, Bool.and_false]
  unfold nameB
  rw [okTo_le l (k + 1) l.length hk h1, Bool.false_and]
set_option maxHeartbeats 1000000 in
set_option maxRecDepth 100000 in
theorem refname_any (l : List UInt8) (w : World) (hlim : l.length ≤ 9223372036854775807) :
    Calls Tryz.prog 179 #[.string (S l)] w fun e w' => e = .returned (.bool (nameB l)) ∧ w = w' := by
  have hsz : ((S l).size : Int) = (l.length : Int) := by rw [S_size]
  obtain ⟨n, hn⟩ : ∃ n, n = l.length := ⟨_, rfl⟩
  rw [← hn] at hsz
  have HN := Lib.hid hn
  have hn1 : n ≤ 9223372036854775807 := by omega
  clear hn hlim
  go_enter Tryz.func179, Tryz.ntmps179
  go_wp2
  go_loop [3] (fun v3 => ∃ k : Nat, k ≤ n ∧ v3 = .int .i64 k ∧ okTo l k = true) (fun v3 => n - (intOf v3).toNat)
  case atStart => exact ⟨0, Nat.zero_le _, rfl, okTo_zero l⟩
  case round =>
    obtain ⟨k, hk, rfl, hok⟩ := hrel
    have HOK := Lib.hid hok
    clear hok
    by_cases hlt : k < n
    · have hkl : k < l.length := by have := HN.out; omega
      obtain ⟨x, hx⟩ : ∃ x, x = l.getD k 0 := ⟨_, rfl⟩
      obtain ⟨c, hc⟩ : ∃ c, c = x.toNat := ⟨_, rfl⟩
      have hget : ∀ h : k < (S l).size, ((S l)[k]'h).toNat = c := fun h => by rw [hc, hx, S_at l k hkl h]
      have HX := Lib.hid hx
      have HCC := Lib.hid hc
      have hc256 : c < 256 := by rw [hc]; exact UInt8.toNat_lt _
      clear hx hc
      by_cases hk0 : k = 0
      · subst hk0
        rcases (show (97 ≤ (c : Int) ∧ (c : Int) ≤ 122) ∨ 122 < (c : Int) ∨ (90 < (c : Int) ∧ (c : Int) < 97) ∨ (65 ≤ (c : Int) ∧ (c : Int) ≤ 90) ∨ (57 < (c : Int) ∧ (c : Int) < 65) ∨ (48 ≤ (c : Int) ∧ (c : Int) ≤ 57) ∨ (c : Int) < 48 by omega) with h1 | h1 | h1 | h1 | h1 | h1 | h1
        · obtain ⟨h1, h2⟩ := h1
          go_wp2
          go_round
          case rel => exact ⟨1, by omega, rfl, by rw [show 1 = 0 + 1 from rfl, okTo_succ, HOK.out, ← HX.out, okAt_yes (by rw [← HCC.out]; omega)]; rfl⟩
          case measure => simp [intOf]; omega
        · (try have d1 : decide ((c : Int) ≤ 122) = false := (by simp; omega))
          (try have d2 : decide ((c : Int) ≤ 90) = false := (by simp; omega))
          go_wp2
          go_ret
          exact ⟨ret_bool (nameB_bad hkl (by rw [← HX.out]; exact okAt_no (by rw [← HCC.out]; omega))).symm, rfl⟩
        · obtain ⟨h1, h2⟩ := h1
          (try have d2 : decide ((c : Int) ≤ 90) = false := (by simp; omega))
          go_wp2
          go_ret
          exact ⟨ret_bool (nameB_bad hkl (by rw [← HX.out]; exact okAt_no (by rw [← HCC.out]; omega))).symm, rfl⟩
        · obtain ⟨h1, h2⟩ := h1
          go_wp2
          go_round
          case rel => exact ⟨1, by omega, rfl, by rw [show 1 = 0 + 1 from rfl, okTo_succ, HOK.out, ← HX.out, okAt_yes (by rw [← HCC.out]; omega)]; rfl⟩
          case measure => simp [intOf]; omega
        · obtain ⟨h1, h2⟩ := h1
          (try have d2 : decide ((c : Int) ≤ 90) = false := (by simp; omega))
          go_wp2
          go_ret
          exact ⟨ret_bool (nameB_bad hkl (by rw [← HX.out]; exact okAt_no (by rw [← HCC.out]; omega))).symm, rfl⟩
        · obtain ⟨h1, h2⟩ := h1
          (try have d2 : decide ((c : Int) ≤ 90) = false := (by simp; omega))
          go_wp2
          go_ret
          exact ⟨ret_bool (nameB_bad hkl (by rw [← HX.out]; exact okAt_no (by rw [← HCC.out]; omega))).symm, rfl⟩
        · (try have d1 : decide ((c : Int) ≤ 122) = false := (by simp; omega))
          (try have d2 : decide ((c : Int) ≤ 90) = false := (by simp; omega))
          go_wp2
          go_ret
          exact ⟨ret_bool (nameB_bad hkl (by rw [← HX.out]; exact okAt_no (by rw [← HCC.out]; omega))).symm, rfl⟩
      · have hkb : ((k : Int) == 0) = false := by rw [beq_eq_false_iff_ne]; omega
        rcases (show (97 ≤ (c : Int) ∧ (c : Int) ≤ 122) ∨ 122 < (c : Int) ∨ (90 < (c : Int) ∧ (c : Int) < 97) ∨ (65 ≤ (c : Int) ∧ (c : Int) ≤ 90) ∨ (57 < (c : Int) ∧ (c : Int) < 65) ∨ (48 ≤ (c : Int) ∧ (c : Int) ≤ 57) ∨ (c : Int) < 48 by omega) with h1 | h1 | h1 | h1 | h1 | h1 | h1
        · obtain ⟨h1, h2⟩ := h1
          go_wp2
          go_round
          case rel => exact ⟨k + 1, by omega, by go_num, by rw [okTo_succ, HOK.out, ← HX.out, okAt_yes (by rw [← HCC.out]; omega)]; rfl⟩
          case measure => simp [intOf]; omega
        · (try have d1 : decide ((c : Int) ≤ 122) = false := (by simp; omega))
          (try have d2 : decide ((c : Int) ≤ 90) = false := (by simp; omega))
          go_wp2
          go_ret
          exact ⟨ret_bool (nameB_bad hkl (by rw [← HX.out]; exact okAt_no (by rw [← HCC.out]; omega))).symm, rfl⟩
        · obtain ⟨h1, h2⟩ := h1
          (try have d2 : decide ((c : Int) ≤ 90) = false := (by simp; omega))
          go_wp2
          go_ret
          exact ⟨ret_bool (nameB_bad hkl (by rw [← HX.out]; exact okAt_no (by rw [← HCC.out]; omega))).symm, rfl⟩
        · obtain ⟨h1, h2⟩ := h1
          go_wp2
          go_round
          case rel => exact ⟨k + 1, by omega, by go_num, by rw [okTo_succ, HOK.out, ← HX.out, okAt_yes (by rw [← HCC.out]; omega)]; rfl⟩
          case measure => simp [intOf]; omega
        · obtain ⟨h1, h2⟩ := h1
          (try have d2 : decide ((c : Int) ≤ 90) = false := (by simp; omega))
          go_wp2
          go_ret
          exact ⟨ret_bool (nameB_bad hkl (by rw [← HX.out]; exact okAt_no (by rw [← HCC.out]; omega))).symm, rfl⟩
        · obtain ⟨h1, h2⟩ := h1
          go_wp2
          go_round
          case rel => exact ⟨k + 1, by omega, by go_num, by rw [okTo_succ, HOK.out, ← HX.out, okAt_yes (by rw [← HCC.out]; omega)]; rfl⟩
          case measure => simp [intOf]; omega
        · (try have d1 : decide ((c : Int) ≤ 122) = false := (by simp; omega))
          (try have d2 : decide ((c : Int) ≤ 90) = false := (by simp; omega))
          go_wp2
          go_ret
          exact ⟨ret_bool (nameB_bad hkl (by rw [← HX.out]; exact okAt_no (by rw [← HCC.out]; omega))).symm, rfl⟩
    · have hkn : k = l.length := by have := HN.out; omega
      have hnm : nameB l = (decide (1 ≤ n) && decide (n ≤ 32)) := by unfold nameB; rw [← hkn, HOK.out, Bool.true_and, hkn, HN.out]
      have HNM := Lib.hid hnm
      clear hnm hkn
      by_cases g1 : 1 ≤ n
      · have g1' : (1 : Int) ≤ n := by omega
        by_cases g2 : n ≤ 32
        · have g2' : (n : Int) ≤ 32 := by omega
          go_wp2
          go_ret
          exact ⟨ret_bool (by rw [HNM.out]; simp [g1, g2]), rfl⟩
        · have g2' : (32 : Int) < n := by omega
          go_wp2
          go_ret
          exact ⟨ret_bool (by rw [HNM.out]; simp [g2]; omega), rfl⟩
      · have g1' : (n : Int) < 1 := by omega
        go_wp2
        go_ret
        exact ⟨ret_bool (by rw [HNM.out]; simp [g1]), rfl⟩
theorem refclass_any (l : List UInt8) (w : World) (hlim : l.length ≤ 9223372036854775807) :
    Calls Tryz.prog 111 #[.string (S l)] w fun e w' => e = .returned (.bool (classB l)) ∧ w = w' := by
  have HNAME := Lib.hid (refname_any l w hlim)
  have hsz : ((S l).size : Int) = (l.length : Int) := by rw [S_size]
  cases hn : nameB l with
  | false =>
    rw [hn] at HNAME
    have HCL := Lib.hid (show classB l = false by unfold classB; rw [hn, Bool.false_and])
    clear hn
    go_enter Tryz.func111, Tryz.ntmps111
    go_wp2_with fail
    refine HNAME.out.mono ?_
    rintro e w' ⟨rfl, rfl⟩
    go_wp2
    go_ret
    exact ⟨ret_bool HCL.out.symm, rfl⟩
  | true =>
    rw [hn] at HNAME
    have hp := nameB_pos hn
    obtain ⟨x, hx⟩ : ∃ x, x = l.getD 0 0 := ⟨_, rfl⟩
    obtain ⟨c, hc⟩ : ∃ c, c = x.toNat := ⟨_, rfl⟩
    have hget : ∀ h : 0 < (S l).size, ((S l)[0]'h).toNat = c := fun h => by rw [hc, hx, S_at l 0 (by omega) h]
    have HCL := Lib.hid (show classB l = decide (c ≤ 90) by unfold classB; rw [hn, Bool.true_and, ← hx, ← hc])
    have hl1 : (1 : Int) ≤ l.length := by omega
    clear hn hx hc
    go_enter Tryz.func111, Tryz.ntmps111
    go_wp2_with fail
    refine HNAME.out.mono ?_
    rintro e w' ⟨rfl, rfl⟩
    go_wp2
    go_ret
    exact ⟨ret_bool (by rw [HCL.out, decide_eq_decide]; omega), rfl⟩
theorem refmember_any (l : List UInt8) (w : World) (hlim : l.length ≤ 9223372036854775807) :
    Calls Tryz.prog 112 #[.string (S l)] w fun e w' => e = .returned (.bool (memberB l)) ∧ w = w' := by
  have HNAME := Lib.hid (refname_any l w hlim)
  have hsz : ((S l).size : Int) = (l.length : Int) := by rw [S_size]
  cases hn : nameB l with
  | false =>
    rw [hn] at HNAME
    have HCL := Lib.hid (show memberB l = false by unfold memberB; rw [hn, Bool.false_and])
    clear hn
    go_enter Tryz.func112, Tryz.ntmps112
    go_wp2_with fail
    refine HNAME.out.mono ?_
    rintro e w' ⟨rfl, rfl⟩
    go_wp2
    go_ret
    exact ⟨ret_bool HCL.out.symm, rfl⟩
  | true =>
    rw [hn] at HNAME
    have hp := nameB_pos hn
    obtain ⟨x, hx⟩ : ∃ x, x = l.getD 0 0 := ⟨_, rfl⟩
    obtain ⟨c, hc⟩ : ∃ c, c = x.toNat := ⟨_, rfl⟩
    have hget : ∀ h : 0 < (S l).size, ((S l)[0]'h).toNat = c := fun h => by rw [hc, hx, S_at l 0 (by omega) h]
    have HCL := Lib.hid (show memberB l = decide (97 ≤ c) by unfold memberB; rw [hn, Bool.true_and, ← hx, ← hc])
    have hl1 : (1 : Int) ≤ l.length := by omega
    clear hn hx hc
    go_enter Tryz.func112, Tryz.ntmps112
    go_wp2_with fail
    refine HNAME.out.mono ?_
    rintro e w' ⟨rfl, rfl⟩
    go_wp2
    go_ret
    exact ⟨ret_bool (by rw [HCL.out, decide_eq_decide]; omega), rfl⟩
theorem toList_beq (l m : List UInt8) : ((S l).toList == m) = decide (l = m) := by
  rw [S_toList]
  by_cases h : l = m
  · subst h; simp
  · simp [h]
theorem refplain_any (l : List UInt8) (w : World) :
    Calls Tryz.prog 79 #[.string (S l)] w fun e w' => e = .returned (.bool (plainB l)) ∧ w = w' := by
  have t1 : ((S l).toList == [105, 110, 116]) = decide (l = kInt) := toList_beq l kInt
  have t2 : ((S l).toList == [98, 111, 111, 108]) = decide (l = kBool) := toList_beq l kBool
  have t3 : ((S l).toList == [116, 101, 120, 116]) = decide (l = kText) := toList_beq l kText
  by_cases h1 : l = kInt
  · have HP := Lib.hid (show plainB l = true by unfold plainB; simp [h1])
    rw [decide_eq_true h1] at t1
    clear h1 t2 t3
    go_enter Tryz.func79, Tryz.ntmps79
    go_wp2
    go_ret
    exact ⟨ret_bool HP.out.symm, rfl⟩
  rw [decide_eq_false h1] at t1
  by_cases h2 : l = kBool
  · have HP := Lib.hid (show plainB l = true by unfold plainB; simp [h2])
    rw [decide_eq_true h2] at t2
    clear h1 h2 t3
    go_enter Tryz.func79, Tryz.ntmps79
    go_wp2
    go_ret
    exact ⟨ret_bool HP.out.symm, rfl⟩
  rw [decide_eq_false h2] at t2
  have HP := Lib.hid (show plainB l = decide (l = kText) by unfold plainB; simp [h1, h2])
  by_cases h3 : l = kText
  · rw [decide_eq_true h3] at t3 HP
    clear h1 h2 h3
    go_enter Tryz.func79, Tryz.ntmps79
    go_wp2
    go_ret
    exact ⟨ret_bool HP.out.symm, rfl⟩
  · rw [decide_eq_false h3] at t3 HP
    clear h1 h2 h3
    go_enter Tryz.func79, Tryz.ntmps79
    go_wp2
    go_ret
    exact ⟨ret_bool HP.out.symm, rfl⟩
set_option maxHeartbeats 400000 in
set_option maxRecDepth 100000 in
theorem refdeep_any (l : List UInt8) (w : World) (hlim : l.length ≤ 9223372036854775807) :
    Calls Tryz.prog 132 #[.string (S l)] w fun e w' => e = .returned (.int .i64 (deepN l : Nat)) ∧ w = w' := by
  obtain ⟨N, hN⟩ : ∃ N, N = deepN l := ⟨_, rfl⟩
  have hN40 : N ≤ 9223372036854775807 := by rw [hN]; have := deepN_le l; omega
  rw [← hN]
  have HN := Lib.hid hN
  clear hN
  go_enter Tryz.func132, Tryz.ntmps132
  go_wp2
  go_loop [0, 3] (fun v0 v3 => ∃ (r : List UInt8) (k : Nat), v0 = .string (S r) ∧ v3 = .int .i64 k ∧ k + deepN r = N ∧ r.length ≤ 9223372036854775807) (fun _ v3 => N - (intOf v3).toNat)
  case atStart => exact ⟨l, 0, rfl, rfl, by rw [Nat.zero_add, HN.out], hlim⟩
  case round =>
    obtain ⟨r, k, rfl, rfl, hk, hr⟩ := hrel
    have hsz : ((S r).size : Int) = (r.length : Int) := by rw [S_size]
    have HK := Lib.hid hk
    have hkN : k ≤ N := by omega
    clear hk
    cases he : endsB r with
    | true =>
      have h2 := endsB_two he
      have hd := deepN_ends he
      have hcut := S_drop r (r.length - 2)
      have hdrop : r.drop (r.length - 2) = [91, 93] := by
        unfold endsB at he
        simp at he
        exact he.2
      rw [hdrop] at hcut
      have htk := S_take r (r.length - 2)
      have hk2 : k + 1 + deepN (r.take (r.length - 2)) = N := by have := HK.out; omega
      have HK2 := Lib.hid hk2
      have hkN2 : k + 1 ≤ N := by omega
      obtain ⟨m, hm⟩ : ∃ m, m = r.length - 2 := ⟨_, rfl⟩
      rw [← hm] at hcut htk HK2
      have hm2 : (r.length : Int) - 2 = (m : Int) := by omega
      have hm3 : (2 : Int) ≤ (r.length : Int) := by omega
      have hm4 : (0 : Int) ≤ m := by omega
      have hm5 : (m : Int) ≤ (r.length : Int) := by omega
      have htl : (r.take m).length ≤ 9223372036854775807 := by rw [List.length_take]; omega
      have hq : ((S [91, 93]).toList == [91, 93]) = true := by rw [S_toList]; rfl
      have HTL := Lib.hid htl
      clear hd hdrop he hk2 hm htl
      generalize r.length = R at *
      go_wp2
      go_round
      case rel => exact ⟨r.take m, k + 1, rfl, by go_num, HK2.out, HTL.out⟩
      case measure => simp [intOf]; omega
    | false =>
      have hkN2 : k = N := by have := HK.out; rw [deepN_not he] at this; omega
      by_cases h2 : 2 ≤ r.length
      · have hcut := S_drop r (r.length - 2)
        have hdrop : r.drop (r.length - 2) ≠ [91, 93] := by
          unfold endsB at he
          simp at he
          exact he h2
        obtain ⟨m, hm⟩ : ∃ m, m = r.length - 2 := ⟨_, rfl⟩
        rw [← hm] at hcut hdrop
        have hm2 : (r.length : Int) - 2 = (m : Int) := by omega
        have hm3 : (2 : Int) ≤ (r.length : Int) := by omega
        have hm4 : (0 : Int) ≤ m := by omega
        have hm5 : (m : Int) ≤ (r.length : Int) := by omega
        have hq : ((S (r.drop m)).toList == [91, 93]) = false := by rw [S_toList, beq_eq_false_iff_ne]; exact hdrop
        have HKN := Lib.hid hkN2
        clear hdrop he hm hkN2
        generalize r.length = R at *
        go_wp2
        go_ret
        exact ⟨ret_int (by rw [HKN.out]), rfl⟩
      · have hm3 : (r.length : Int) < 2 := by omega
        have HKN := Lib.hid hkN2
        clear he hkN2
        go_wp2
        go_ret
        exact ⟨ret_int (by rw [HKN.out]), rfl⟩
set_option maxHeartbeats 400000 in
set_option maxRecDepth 100000 in
theorem refright_any (l : List UInt8) (w : World) (hlim : l.length ≤ 9223372036854775807) :
    Calls Tryz.prog 81 #[.string (S l)] w fun e w' => e = .returned (.bool (rightB l)) ∧ w = w' := by
  have HD := Lib.hid (refdeep_any l w hlim)
  have hsz : ((S l).size : Int) = (l.length : Int) := by rw [S_size]
  have hle := deepN_le l
  have htk := S_take l (l.length - 2 * deepN l)
  have hbl : (baseL l).length ≤ 9223372036854775807 := by rw [baseL_length]; omega
  have HP := Lib.hid (refplain_any (baseL l))
  have HC := Lib.hid (fun w => refclass_any (baseL l) w hbl)
  have HR := Lib.hid (show rightB l = (decide (deepN l ≤ 3) && (plainB (baseL l) || classB (baseL l))) from rfl)
  rw [show l.take (l.length - 2 * deepN l) = baseL l from rfl] at htk
  clear hbl
  generalize deepN l = N at *
  obtain ⟨m, hm⟩ : ∃ m, m = l.length - 2 * N := ⟨_, rfl⟩
  rw [← hm] at htk
  have hm2 : (l.length : Int) - 2 * (N : Int) = (m : Int) := by omega
  have hm4 : (0 : Int) ≤ m := by omega
  have hm5 : (m : Int) ≤ (l.length : Int) := by omega
  clear hm
  by_cases h3 : N ≤ 3
  · have h3' : (N : Int) ≤ 3 := by omega
    rw [decide_eq_true h3, Bool.true_and] at HR
    cases hp : plainB (baseL l) with
    | true =>
      rw [hp] at HP
      rw [hp, Bool.true_or] at HR
      clear hp
      go_enter Tryz.func81, Tryz.ntmps81
      go_wp2_with fail
      refine HD.out.mono ?_
      rintro e w' ⟨rfl, rfl⟩
      go_wp2_with fail
      refine (HP.out w).mono ?_
      rintro e w' ⟨rfl, rfl⟩
      go_wp2
      go_ret
      exact ⟨ret_bool HR.out.symm, rfl⟩
    | false =>
      rw [hp] at HP
      rw [hp, Bool.false_or] at HR
      clear hp
      go_enter Tryz.func81, Tryz.ntmps81
      go_wp2_with fail
      refine HD.out.mono ?_
      rintro e w' ⟨rfl, rfl⟩
      go_wp2_with fail
      refine (HP.out w).mono ?_
      rintro e w' ⟨rfl, rfl⟩
      go_wp2_with fail
      refine (HC.out w).mono ?_
      rintro e w' ⟨rfl, rfl⟩
      go_wp2
      go_ret
      exact ⟨ret_bool HR.out.symm, rfl⟩
  · have h3' : (3 : Int) < (N : Int) := by omega
    rw [decide_eq_false h3, Bool.false_and] at HR
    go_enter Tryz.func81, Tryz.ntmps81
    go_wp2_with fail
    refine HD.out.mono ?_
    rintro e w' ⟨rfl, rfl⟩
    go_wp2
    go_ret
    exact ⟨ret_bool HR.out.symm, rfl⟩
end Go.Proofs.YtpincofjopmaaaaGreatDoor
