/-
  The contract of package kind's named, at whatever test it is handed.
  Conditions: the text has at most 2^40 bytes; the test answers without touching memory.
-/
import Derived.Test.YtpincofjopmaaaaGreatDoorM04
namespace Go.Proofs.YtpincofjopmaaaaGreatDoor
open Go.RowKit
/-- What named answers: yes or no; of what was there nothing has changed. -/
def Said (b : Bool) (w : World) (e : Ending) (w' : World) : Prop := e = .returned (.bool b) ∧ Below w.heap.size w w'
theorem okP_no (p : Int → Bool) {k : Nat} {c : UInt8} (h : ¬ ((97 ≤ c.toNat ∧ c.toNat ≤ 122) ∨ (65 ≤ c.toNat ∧ c.toNat ≤ 90) ∨ (48 ≤ c.toNat ∧ c.toNat ≤ 57))) : okP p k c = false := by
  unfold okP letterB digitB
  cases hk : (decide (97 ≤ c.toNat) && decide (c.toNat ≤ 122) || decide (65 ≤ c.toNat) && decide (c.toNat ≤ 90) || decide (48 ≤ c.toNat) && decide (c.toNat ≤ 57)) with
  | false => rw [Bool.and_false]
  | true =>
    exfalso
    apply h
    simp only [Bool.or_eq_true, Bool.and_eq_true, decide_eq_true_eq] at hk
    omega
theorem okP_yes (p : Int → Bool) {k : Nat} {c : UInt8} (hp : k ≠ 0 ∨ p c.toNat = true) (h : (97 ≤ c.toNat ∧ c.toNat ≤ 122) ∨ (65 ≤ c.toNat ∧ c.toNat ≤ 90) ∨ (48 ≤ c.toNat ∧ c.toNat ≤ 57)) : okP p k c = true := by
  unfold okP letterB digitB
  rw [Bool.and_eq_true]
  constructor
  · rcases hp with hp | hp
    · simp [hp]
    · simp [hp]
  · simp only [Bool.or_eq_true, Bool.and_eq_true, decide_eq_true_eq]
    omega
theorem okP_first (p : Int → Bool) {c : UInt8} (hp : p c.toNat = false) : okP p 0 c = false := by
  unfold okP
  simp [hp]
set_option maxHeartbeats 2000000 in
set_option maxRecDepth 100000 in
theorem named_any (F : Nat) (p : Int → Bool) (he : ∀ args w, (callFunc F args).run Tryz.prog w = .ok (.enter F args) w)
    (hF : ∀ (r : Int) (w : World), Calls Tryz.prog F #[.int .i32 r] w fun e w' => e = .returned (.bool (p r)) ∧ w = w') (hpl : ∀ r : Int, 128 ≤ r → p r = false)
    (l : List UInt8) (w : World) (hlim : l.length ≤ 9223372036854775807) :
    Calls Tryz.prog 226 #[.string (S l), .func (.func F) #[] #[]] w (Said (namedB p l) w) := by
  have hsz : ((S l).size : Int) = (l.length : Int) := by rw [S_size]
  have HPL := Lib.hid hpl
  have HF := Lib.hid hF
  have HE := Lib.hid he
  clear hpl hF he
  by_cases h0 : l = []
  · subst h0
    rw [namedB_none]
    have e1 : (S []).toList = [] := S_toList []
    go_enter Tryz.func226, Tryz.ntmps226
    go_wp2
    go_ret
    exact ⟨rfl, Below.refl _ _⟩
  have e1 : (!(S l).toList.isEmpty) = true := by rw [S_toList]; simp [h0]
  have e2 : ((S l).toList == []) = false := by rw [S_toList]; simpa using h0
  by_cases h32 : 32 < l.length
  · rw [namedB_long h32]
    have h32' : (32 : Int) < (l.length : Int) := by omega
    go_enter Tryz.func226, Tryz.ntmps226
    go_wp2
    go_ret
    exact ⟨rfl, Below.refl _ _⟩
  have h32' : (l.length : Int) ≤ 32 := by omega
  have HN0 := Lib.hid h0
  clear h0
  obtain ⟨n, hn⟩ : ∃ n, n = l.length := ⟨_, rfl⟩
  rw [← hn] at hsz h32' hlim
  have HN := Lib.hid hn
  clear hn h32
  go_enter Tryz.func226, Tryz.ntmps226
  go_wp2
  clear e1 e2
  go_loopw [5] (fun _ w' => ∃ k : Nat, k ≤ n ∧ w' = w.iter (S l) k ∧ okPTo p l k = true) (fun _ w' => n - w'.iterPos w.heap.size)
  case atStart => exact ⟨0, Nat.zero_le _, rfl, okPTo_zero p l⟩
  case round =>
    obtain ⟨k, hk, rfl, hok⟩ := hrel
    have HOK := Lib.hid hok
    clear hok
    by_cases hlt : k < n
    · have hkl : k < l.length := by have := HN.out; omega
      have hks : k < (S l).size := by rw [S_size]; exact hkl
      obtain ⟨x, hx⟩ : ∃ x, x = l.getD k 0 := ⟨_, rfl⟩
      have HX := Lib.hid hx
      have hr := rune_at l k hkl hks
      have HNX := Lib.hid (fun ty => run_next_any (P := Tryz.prog) w (S l) k ty hks)
      rw [← hx] at hr
      have HKL := Lib.hid hkl
      clear hx hkl hks
      rcases hr with ⟨h128, hd⟩ | ⟨h128, hr1, hr2, hd1⟩
      · rw [hd] at HNX
        clear hd
        have hnx := HNX.out
        clear HNX
        obtain ⟨c, hc⟩ : ∃ c, c = x.toNat := ⟨_, rfl⟩
        have HC := Lib.hid hc
        rw [← hc] at hnx h128
        clear hc
        by_cases hk0 : k = 0
        · subst hk0
          have he := HE.out
          cases hpc : p (c : Int) with
          | true =>
            have HPC := Lib.hid hpc
            clear hpc
            rcases (show (65 ≤ (c : Int) ∧ (c : Int) ≤ 90) ∨ (97 ≤ (c : Int) ∧ (c : Int) ≤ 122) ∨ (48 ≤ (c : Int) ∧ (c : Int) ≤ 57) ∨ ((c : Int) < 48) ∨ (57 < (c : Int) ∧ (c : Int) < 65) ∨ (90 < (c : Int) ∧ (c : Int) < 97) ∨ (122 < (c : Int)) by omega) with h1 | h1 | h1 | h1 | h1 | h1 | h1
            · obtain ⟨h1, h2⟩ := h1
              go_wp2_with fail
              refine (HF.out _ _).mono ?_
              rintro e w' ⟨rfl, rfl⟩
              rw [HPC.out]
              clear he
              go_wp2
              go_roundw
              case rel => exact ⟨1, by omega, rfl, by rw [show 1 = 0 + 1 from rfl, okPTo_succ, HOK.out, ← HX.out, okP_yes p (.inr (by rw [← HC.out]; exact HPC.out)) (by rw [← HC.out]; omega)]; rfl⟩
              case measure => simp; omega
            · obtain ⟨h1, h2⟩ := h1
              have d90 : decide ((c : Int) ≤ 90) = false := by simp; omega
              go_wp2_with fail
              refine (HF.out _ _).mono ?_
              rintro e w' ⟨rfl, rfl⟩
              rw [HPC.out]
              clear he
              go_wp2
              go_roundw
              case rel => exact ⟨1, by omega, rfl, by rw [show 1 = 0 + 1 from rfl, okPTo_succ, HOK.out, ← HX.out, okP_yes p (.inr (by rw [← HC.out]; exact HPC.out)) (by rw [← HC.out]; omega)]; rfl⟩
              case measure => simp; omega
            · obtain ⟨h1, h2⟩ := h1
              go_wp2_with fail
              refine (HF.out _ _).mono ?_
              rintro e w' ⟨rfl, rfl⟩
              rw [HPC.out]
              clear he
              go_wp2
              go_roundw
              case rel => exact ⟨1, by omega, rfl, by rw [show 1 = 0 + 1 from rfl, okPTo_succ, HOK.out, ← HX.out, okP_yes p (.inr (by rw [← HC.out]; exact HPC.out)) (by rw [← HC.out]; omega)]; rfl⟩
              case measure => simp; omega
            · go_wp2_with fail
              refine (HF.out _ _).mono ?_
              rintro e w' ⟨rfl, rfl⟩
              rw [HPC.out]
              clear he
              go_wp2
              go_ret
              exact ⟨ret_bool (namedB_bad HKL.out (by rw [← HX.out]; exact okP_no p (by rw [← HC.out]; omega))).symm, (Below.refl _ _).alloc (Nat.le_refl _) _⟩
            · obtain ⟨h1, h2⟩ := h1
              have d57 : decide ((c : Int) ≤ 57) = false := by simp; omega
              go_wp2_with fail
              refine (HF.out _ _).mono ?_
              rintro e w' ⟨rfl, rfl⟩
              rw [HPC.out]
              clear he
              go_wp2
              go_ret
              exact ⟨ret_bool (namedB_bad HKL.out (by rw [← HX.out]; exact okP_no p (by rw [← HC.out]; omega))).symm, (Below.refl _ _).alloc (Nat.le_refl _) _⟩
            · obtain ⟨h1, h2⟩ := h1
              have d90 : decide ((c : Int) ≤ 90) = false := by simp; omega
              have d57 : decide ((c : Int) ≤ 57) = false := by simp; omega
              go_wp2_with fail
              refine (HF.out _ _).mono ?_
              rintro e w' ⟨rfl, rfl⟩
              rw [HPC.out]
              clear he
              go_wp2
              go_ret
              exact ⟨ret_bool (namedB_bad HKL.out (by rw [← HX.out]; exact okP_no p (by rw [← HC.out]; omega))).symm, (Below.refl _ _).alloc (Nat.le_refl _) _⟩
            · have d90 : decide ((c : Int) ≤ 90) = false := by simp; omega
              have d122 : decide ((c : Int) ≤ 122) = false := by simp; omega
              have d57 : decide ((c : Int) ≤ 57) = false := by simp; omega
              go_wp2_with fail
              refine (HF.out _ _).mono ?_
              rintro e w' ⟨rfl, rfl⟩
              rw [HPC.out]
              clear he
              go_wp2
              go_ret
              exact ⟨ret_bool (namedB_bad HKL.out (by rw [← HX.out]; exact okP_no p (by rw [← HC.out]; omega))).symm, (Below.refl _ _).alloc (Nat.le_refl _) _⟩
          | false =>
            have HPC := Lib.hid hpc
            clear hpc
            go_wp2_with fail
            refine (HF.out _ _).mono ?_
            rintro e w' ⟨rfl, rfl⟩
            rw [HPC.out]
            clear he
            go_wp2
            go_ret
            exact ⟨ret_bool (namedB_bad HKL.out (by rw [← HX.out]; exact okP_first p (by rw [← HC.out]; exact HPC.out))).symm, (Below.refl _ _).alloc (Nat.le_refl _) _⟩
        · have hkb : ((k : Int) == 0) = false := by rw [beq_eq_false_iff_ne]; omega
          rcases (show (65 ≤ (c : Int) ∧ (c : Int) ≤ 90) ∨ (97 ≤ (c : Int) ∧ (c : Int) ≤ 122) ∨ (48 ≤ (c : Int) ∧ (c : Int) ≤ 57) ∨ ((c : Int) < 48) ∨ (57 < (c : Int) ∧ (c : Int) < 65) ∨ (90 < (c : Int) ∧ (c : Int) < 97) ∨ (122 < (c : Int)) by omega) with h1 | h1 | h1 | h1 | h1 | h1 | h1
          · obtain ⟨h1, h2⟩ := h1
            go_wp2
            go_roundw
            case rel => exact ⟨k + 1, by omega, rfl, by rw [okPTo_succ, HOK.out, ← HX.out, okP_yes p (.inl hk0) (by rw [← HC.out]; omega)]; rfl⟩
            case measure => simp; omega
          · obtain ⟨h1, h2⟩ := h1
            have d90 : decide ((c : Int) ≤ 90) = false := by simp; omega
            go_wp2
            go_roundw
            case rel => exact ⟨k + 1, by omega, rfl, by rw [okPTo_succ, HOK.out, ← HX.out, okP_yes p (.inl hk0) (by rw [← HC.out]; omega)]; rfl⟩
            case measure => simp; omega
          · obtain ⟨h1, h2⟩ := h1
            go_wp2
            go_roundw
            case rel => exact ⟨k + 1, by omega, rfl, by rw [okPTo_succ, HOK.out, ← HX.out, okP_yes p (.inl hk0) (by rw [← HC.out]; omega)]; rfl⟩
            case measure => simp; omega
          · go_wp2
            go_ret
            exact ⟨ret_bool (namedB_bad HKL.out (by rw [← HX.out]; exact okP_no p (by rw [← HC.out]; omega))).symm, (Below.refl _ _).alloc (Nat.le_refl _) _⟩
          · obtain ⟨h1, h2⟩ := h1
            have d57 : decide ((c : Int) ≤ 57) = false := by simp; omega
            go_wp2
            go_ret
            exact ⟨ret_bool (namedB_bad HKL.out (by rw [← HX.out]; exact okP_no p (by rw [← HC.out]; omega))).symm, (Below.refl _ _).alloc (Nat.le_refl _) _⟩
          · obtain ⟨h1, h2⟩ := h1
            have d90 : decide ((c : Int) ≤ 90) = false := by simp; omega
            have d57 : decide ((c : Int) ≤ 57) = false := by simp; omega
            go_wp2
            go_ret
            exact ⟨ret_bool (namedB_bad HKL.out (by rw [← HX.out]; exact okP_no p (by rw [← HC.out]; omega))).symm, (Below.refl _ _).alloc (Nat.le_refl _) _⟩
          · have d90 : decide ((c : Int) ≤ 90) = false := by simp; omega
            have d122 : decide ((c : Int) ≤ 122) = false := by simp; omega
            have d57 : decide ((c : Int) ≤ 57) = false := by simp; omega
            go_wp2
            go_ret
            exact ⟨ret_bool (namedB_bad HKL.out (by rw [← HX.out]; exact okP_no p (by rw [← HC.out]; omega))).symm, (Below.refl _ _).alloc (Nat.le_refl _) _⟩
      · have HBAD := Lib.hid (namedB_bad (p := p) HKL.out (by rw [← HX.out]; exact okP_no p (by omega)))
        clear h128
        have hnx := HNX.out
        clear HNX
        generalize (Utf8.decode (S l) k).2 = d at hnx hd1
        generalize (Utf8.decode (S l) k).1 = r at hnx hr1 hr2
        have hr3 : (122 : Int) < (r : Int) := by omega
        have d90 : decide ((r : Int) ≤ 90) = false := by simp; omega
        have d122 : decide ((r : Int) ≤ 122) = false := by simp; omega
        have d57 : decide ((r : Int) ≤ 57) = false := by simp; omega
        have HPC := Lib.hid (HPL.out (r : Int) (by omega))
        clear hr1 hr2
        by_cases hk0 : k = 0
        · subst hk0
          have he := HE.out
          go_wp2_with fail
          refine (HF.out _ _).mono ?_
          rintro e w' ⟨rfl, rfl⟩
          rw [HPC.out]
          clear he
          go_wp2
          go_ret
          exact ⟨ret_bool HBAD.out.symm, (Below.refl _ _).alloc (Nat.le_refl _) _⟩
        · have hkb : ((k : Int) == 0) = false := by rw [beq_eq_false_iff_ne]; omega
          go_wp2
          go_ret
          exact ⟨ret_bool HBAD.out.symm, (Below.refl _ _).alloc (Nat.le_refl _) _⟩
    · have hke : k = l.length := by have := HN.out; omega
      have hfin : namedB p l = true := by
        unfold namedB
        rw [← hke, HOK.out, Bool.true_and]
        have : l ≠ [] := HN0.out
        have : 0 < l.length := List.length_pos_iff.2 this
        simp
        omega
      have HFIN := Lib.hid hfin
      have hnx : ∀ ty, (Instr.next (.pointer (some ⟨w.heap.size, 0, none⟩)) true ty).run Tryz.prog (w.iter (S l) k) = _ := fun ty => run_next_end w (S l) k ty (by rw [S_size]; omega)
      clear hfin hke
      go_wp2
      go_ret
      exact ⟨ret_bool HFIN.out.symm, (Below.refl _ _).alloc (Nat.le_refl _) _⟩
end Go.Proofs.YtpincofjopmaaaaGreatDoor
