/-
  The contracts of package kind's upper, lower, digit, of the closure of Name, and of named: names that begin with a letter of one sort.
  Conditions: the text has at most 2^40 bytes; the test that is handed to named answers without touching memory, and yes at letters alone.
  The contract of package kind's named, at whatever test it is handed.
  Conditions: the text has at most 2^40 bytes; the test answers without touching memory.
  The contracts of package kind's Name, Class, Plain, depth, Right, Deep and Of.
  Conditions: the text has at most 2^40 bytes.
-/
import Derived.Test.YtpincofjopmaaaaGreatDoorM03
import Derived.Laws.RangeAny
namespace Go.Proofs.YtpincofjopmaaaaGreatDoor
open Go.RowKit
/-- May this byte stand at this place of a name that begins by the test p? -/
def okP (p : Int → Bool) (i : Nat) (c : UInt8) : Bool := (decide (i ≠ 0) || p c.toNat) && (letterB c || digitB c)
def okPTo (p : Int → Bool) (l : List UInt8) (k : Nat) : Bool := (List.range k).all fun i => okP p i (l.getD i 0)
def namedB (p : Int → Bool) (l : List UInt8) : Bool := okPTo p l l.length && (decide (1 ≤ l.length) && decide (l.length ≤ 32))
theorem okPTo_succ (p : Int → Bool) (l : List UInt8) (k : Nat) : okPTo p l (k + 1) = (okPTo p l k && okP p k (l.getD k 0)) := by
  unfold okPTo
  rw [List.range_succ, List.all_append]
  simp
theorem okPTo_zero (p : Int → Bool) (l : List UInt8) : okPTo p l 0 = true := by simp [okPTo]
theorem namedB_bad {p : Int → Bool} {l : List UInt8} {k : Nat} (hk : k < l.length) (h : okP p k (l.getD k 0) = false) : namedB p l = false := by
  have h1 : okPTo p l l.length = false := by
    unfold okPTo
    rw [List.all_eq_false]
    exact ⟨k, by simpa using hk, by rw [h]; decide⟩
  unfold namedB
  rw [h1, Bool.false_and]
theorem namedB_long {p : Int → Bool} {l : List UInt8} (h : 32 < l.length) : namedB p l = false := by
  unfold namedB
  rw [decide_eq_false (show ¬ l.length ≤ 32 by omega), Bool.and_false, Bool.and_false]
theorem namedB_none (p : Int → Bool) : namedB p [] = false := by unfold namedB; simp
def upI (r : Int) : Bool := decide (65 ≤ r) && decide (r ≤ 90)
def loI (r : Int) : Bool := decide (97 ≤ r) && decide (r ≤ 122)
def leI (r : Int) : Bool := upI r || loI r
theorem namedB_of (p : Int → Bool) (q : UInt8 → Bool) (l : List UInt8) (hq : ∀ c : UInt8, (p c.toNat && (letterB c || digitB c)) = (letterB c && q c)) : namedB p l = (nameB l && q (l.getD 0 0)) := by
  unfold namedB nameB
  cases l with
  | nil => simp
  | cons b t =>
    have h1 : okPTo p (b :: t) (b :: t).length = (okTo (b :: t) (b :: t).length && q b) := by
      unfold okPTo okTo
      rw [List.length_cons, List.range_succ_eq_map, List.all_cons, List.all_cons]
      have e0 : okP p 0 ((b :: t).getD 0 0) = (okAt 0 ((b :: t).getD 0 0) && q b) := by
        show okP p 0 b = (okAt 0 b && q b)
        unfold okP okAt
        have := hq b
        simp only [ne_eq, not_true_eq_false, decide_false, Bool.false_or, Bool.false_and, Bool.or_false]
        exact this
      have e1 : ((List.range t.length).map Nat.succ).all (fun i => okP p i ((b :: t).getD i 0)) = ((List.range t.length).map Nat.succ).all (fun i => okAt i ((b :: t).getD i 0)) := by
        rw [List.all_map, List.all_map]
        exact congrArg (fun f => (List.range t.length).all f) (funext fun i => by simp [okP, okAt])
      rw [e0, e1, Bool.and_assoc, Bool.and_assoc]
      congr 1
      exact Bool.and_comm _ _
    rw [h1]
    show _ = (_ && q b)
    cases okTo (b :: t) (b :: t).length <;> cases q b <;> simp
theorem namedB_up (l : List UInt8) : namedB upI l = classB l := by
  unfold classB
  rw [namedB_of upI (fun c => decide (c.toNat ≤ 90)) l (fun c => by
    unfold upI letterB digitB
    rw [Bool.eq_iff_iff]
    simp only [Bool.and_eq_true, Bool.or_eq_true, decide_eq_true_eq]
    omega)]
theorem namedB_lo (l : List UInt8) : namedB loI l = memberB l := by
  unfold memberB
  rw [namedB_of loI (fun c => decide (97 ≤ c.toNat)) l (fun c => by
    unfold loI letterB digitB
    rw [Bool.eq_iff_iff]
    simp only [Bool.and_eq_true, Bool.or_eq_true, decide_eq_true_eq]
    omega)]
theorem namedB_le (l : List UInt8) : namedB leI l = nameB l := by
  rw [namedB_of leI (fun _ => true) l (fun c => by
    unfold leI upI loI letterB digitB
    rw [Bool.eq_iff_iff]
    simp only [Bool.and_eq_true, Bool.or_eq_true, decide_eq_true_eq, and_true]
    omega), Bool.and_true]
/-- The rune at a place: the byte itself, or nothing below 128. -/
theorem rune_at (l : List UInt8) (k : Nat) (hk : k < l.length) (h : k < (S l).size) :
    ((l.getD k 0).toNat < 128 ∧ Utf8.decode (S l) k = ((l.getD k 0).toNat, 1)) ∨
    (128 ≤ (l.getD k 0).toNat ∧ 128 ≤ (Utf8.decode (S l) k).1 ∧ (Utf8.decode (S l) k).1 ≤ 2147483647 ∧ 1 ≤ (Utf8.decode (S l) k).2) := by
  have e := S_at l k hk h
  by_cases ha : (l.getD k 0).toNat < 128
  · exact .inl ⟨ha, by rw [decode_ascii (S l) k h (by rw [e]; exact ha), e]⟩
  · have := decode_high (S l) k h (by rw [e]; omega)
    exact .inr ⟨by omega, this.1, decode_le (S l) k, this.2⟩
theorem upper_any (r : Int) (w : World) : Calls Tryz.prog 227 #[.int .i32 r] w fun e w' => e = .returned (.bool (upI r)) ∧ w = w' := by
  unfold upI
  by_cases h1 : 65 ≤ r
  · rw [decide_eq_true h1, Bool.true_and]
    go_enter Tryz.func227, Tryz.ntmps227
    go_wp2
    go_ret
    exact ⟨rfl, rfl⟩
  · rw [decide_eq_false h1, Bool.false_and]
    have h2 : r < 65 := by omega
    go_enter Tryz.func227, Tryz.ntmps227
    go_wp2
    go_ret
    exact ⟨rfl, rfl⟩
theorem lower_any (r : Int) (w : World) : Calls Tryz.prog 261 #[.int .i32 r] w fun e w' => e = .returned (.bool (loI r)) ∧ w = w' := by
  unfold loI
  by_cases h1 : 97 ≤ r
  · rw [decide_eq_true h1, Bool.true_and]
    go_enter Tryz.func261, Tryz.ntmps261
    go_wp2
    go_ret
    exact ⟨rfl, rfl⟩
  · rw [decide_eq_false h1, Bool.false_and]
    have h2 : r < 97 := by omega
    go_enter Tryz.func261, Tryz.ntmps261
    go_wp2
    go_ret
    exact ⟨rfl, rfl⟩
theorem letter_any (r : Int) (w : World) : Calls Tryz.prog 263 #[.int .i32 r] w fun e w' => e = .returned (.bool (leI r)) ∧ w = w' := by
  have HU := Lib.hid (upper_any r w)
  have HL := Lib.hid (lower_any r w)
  unfold leI
  cases hu : upI r with
  | true =>
    rw [hu] at HU
    rw [Bool.true_or]
    clear hu
    go_enter Tryz.func263, Tryz.ntmps263
    go_wp2_with fail
    refine HU.out.mono ?_
    rintro e w' ⟨rfl, rfl⟩
    go_wp2
    go_ret
    exact ⟨rfl, rfl⟩
  | false =>
    rw [hu] at HU
    rw [Bool.false_or]
    clear hu
    go_enter Tryz.func263, Tryz.ntmps263
    go_wp2_with fail
    refine HU.out.mono ?_
    rintro e w' ⟨rfl, rfl⟩
    go_wp2_with fail
    refine HL.out.mono ?_
    rintro e w' ⟨rfl, rfl⟩
    go_wp2
    go_ret
    exact ⟨rfl, rfl⟩
end Go.Proofs.YtpincofjopmaaaaGreatDoor
namespace Go.Proofs.YtpincofjopmaaaaGreatDoor
open Go.RowKit
/-- What named answers: yes or no; of what was there nothing has changed. -/
def Said (b : Bool) (w : World) (e : Ending) (w' : World) : Prop := e = .returned (.bool b) ∧ Below w.heap.size w w'
theorem okP_no (p : Int → Bool) {k : Nat} {c : UInt8} (h : ¬ ((97 ≤ c.toNat ∧ c.toNat ≤ 122) ∨ (65 ≤ c.toNat ∧ c.toNat ≤ 90) ∨ (48 ≤ c.toNat ∧ c.toNat ≤ 57))) : okP p k c = false := by
  unfold okP letterB digitB
  cases hk : (decide (97 ≤ c.toNat) && decide (c.toNat ≤ 122) || decide (65 ≤ c.toNat) && decide (c.toNat ≤ 90) || decide (48 ≤ c.toNat) && decide (c.toNat ≤ 57)) with
  | false => rw [Bool.and_false]
  | true =>
    exfalso
    apply h
    simp only [Bool.or_eq_true, Bool.and_eq_true, decide_eq_true_eq] at hk
    omega
theorem okP_yes (p : Int → Bool) {k : Nat} {c : UInt8} (hp : k ≠ 0 ∨ p c.toNat = true) (h : (97 ≤ c.toNat ∧ c.toNat ≤ 122) ∨ (65 ≤ c.toNat ∧ c.toNat ≤ 90) ∨ (48 ≤ c.toNat ∧ c.toNat ≤ 57)) : okP p k c = true := by
  unfold okP letterB digitB
  rw [Bool.and_eq_true]
  constructor
  · rcases hp with hp | hp
    · simp [hp]
    · simp [hp]
  · simp only [Bool.or_eq_true, Bool.and_eq_true, decide_eq_true_eq]
    omega
theorem okP_first (p : Int → Bool) {c : UInt8} (hp : p c.toNat = false) : okP p 0 c = false := by
  unfold okP
  simp [hp]
set_option maxHeartbeats 2000000 in
set_option maxRecDepth 100000 in
theorem named_any (F : Nat) (p : Int → Bool) (he : ∀ args w, (callFunc F args).run Tryz.prog w = .ok (.enter F args) w)
    (hF : ∀ (r : Int) (w : World), Calls Tryz.prog F #[.int .i32 r] w fun e w' => e = .returned (.bool (p r)) ∧ w = w') (hpl : ∀ r : Int, 128 ≤ r → p r = false)
    (l : List UInt8) (w : World) (hlim : l.length ≤ 9223372036854775807) :
    Calls Tryz.prog 226 #[.string (S l), .func (.func F) #[] #[]] w (Said (namedB p l) w) := by
  have hsz : ((S l).size : Int) = (l.length : Int) := by rw [S_size]
  have HPL := Lib.hid hpl
  have HF := Lib.hid hF
  have HE := Lib.hid he
  clear hpl hF he
  by_cases h0 : l = []
  · subst h0
    rw [namedB_none]
    have e1 : (S []).toList = [] := S_toList []
    go_enter Tryz.func226, Tryz.ntmps226
    go_wp2
    go_ret
    exact ⟨rfl, Below.refl _ _⟩
  have e1 : (!(S l).toList.isEmpty) = true := by rw [S_toList]; simp [h0]
  have e2 : ((S l).toList == []) = false := by rw [S_toList]; simpa using h0
  by_cases h32 : 32 < l.length
  · rw [namedB_long h32]
    have h32' : (32 : Int) < (l.length : Int) := by omega
    go_enter Tryz.func226, Tryz.ntmps226
    go_wp2
    go_ret
    exact ⟨rfl, Below.refl _ _⟩
  have h32' : (l.length : Int) ≤ 32 := by omega
  have HN0 := Lib.hid h0
  clear h0
  obtain ⟨n, hn⟩ : ∃ n, n = l.length := ⟨_, rfl⟩
  rw [← hn] at hsz h32' hlim
  have HN := Lib.hid hn
  clear hn h32
  go_enter Tryz.func226, Tryz.ntmps226
  go_wp2
  clear e1 e2
  go_loopw [5] (fun _ w' => ∃ k : Nat, k ≤ n ∧ w' = w.iter (S l) k ∧ okPTo p l k = true) (fun _ w' => n - w'.iterPos w.heap.size)
  case atStart => exact ⟨0, Nat.zero_le _, rfl, okPTo_zero p l⟩
  case round =>
    obtain ⟨k, hk, rfl, hok⟩ := hrel
    have HOK := Lib.hid hok
    clear hok
    by_cases hlt : k < n
    · have hkl : k < l.length := by have := HN.out; omega
      have hks : k < (S l).size := by rw [S_size]; exact hkl
      obtain ⟨x, hx⟩ : ∃ x, x = l.getD k 0 := ⟨_, rfl⟩
      have HX := Lib.hid hx
      have hr := rune_at l k hkl hks
      have HNX := Lib.hid (fun ty => run_next_any (P := Tryz.prog) w (S l) k ty hks)
      rw [← hx] at hr
      have HKL := Lib.hid hkl
      clear hx hkl hks
      rcases hr with ⟨h128, hd⟩ | ⟨h128, hr1, hr2, hd1⟩
      · rw [hd] at HNX
        clear hd
        have hnx := HNX.out
        clear HNX
        obtain ⟨c, hc⟩ : ∃ c, c = x.toNat := ⟨_, rfl⟩
        have HC := Lib.hid hc
        rw [← hc] at hnx h128
        clear hc
        by_cases hk0 : k = 0
        · subst hk0
          have he := HE.out
          cases hpc : p (c : Int) with
          | true =>
            have HPC := Lib.hid hpc
            clear hpc
            rcases (show (65 ≤ (c : Int) ∧ (c : Int) ≤ 90) ∨ (97 ≤ (c : Int) ∧ (c : Int) ≤ 122) ∨ (48 ≤ (c : Int) ∧ (c : Int) ≤ 57) ∨ ((c : Int) < 48) ∨ (57 < (c : Int) ∧ (c : Int) < 65) ∨ (90 < (c : Int) ∧ (c : Int) < 97) ∨ (122 < (c : Int)) by omega) with h1 | h1 | h1 | h1 | h1 | h1 | h1
            · obtain ⟨h1, h2⟩ := h1
              go_wp2_with fail
              refine (HF.out _ _).mono ?_
              rintro e w' ⟨rfl, rfl⟩
              rw [HPC.out]
              clear he
              go_wp2
              go_roundw
              case rel => exact ⟨1, by omega, rfl, by rw [show 1 = 0 + 1 from rfl, okPTo_succ, HOK.out, ← HX.out, okP_yes p (.inr (by rw [← HC.out]; exact HPC.out)) (by rw [← HC.out]; omega)]; rfl⟩
              case measure => simp; omega
            · obtain ⟨h1, h2⟩ := h1
              have d90 : decide ((c : Int) ≤ 90) = false := by simp; omega
              go_wp2_with fail
              refine (HF.out _ _).mono ?_
              rintro e w' ⟨rfl, rfl⟩
              rw [HPC.out]
              clear he
              go_wp2
              go_roundw
              case rel => exact ⟨1, by omega, rfl, by rw [show 1 = 0 + 1 from rfl, okPTo_succ, HOK.out, ← HX.out, okP_yes p (.inr (by rw [← HC.out]; exact HPC.out)) (by rw [← HC.out]; omega)]; rfl⟩
              case measure => simp; omega
            · obtain ⟨h1, h2⟩ := h1
              go_wp2_with fail
              refine (HF.out _ _).mono ?_
              rintro e w' ⟨rfl, rfl⟩
              rw [HPC.out]
              clear he
              go_wp2
              go_roundw
              case rel => exact ⟨1, by omega, rfl, by rw [show 1 = 0 + 1 from rfl, okPTo_succ, HOK.out, ← HX.out, okP_yes p (.inr (by rw [← HC.out]; exact HPC.out)) (by rw [← HC.out]; omega)]; rfl⟩
              case measure => simp; omega
            · go_wp2_with fail
              refine (HF.out _ _).mono ?_
              rintro e w' ⟨rfl, rfl⟩
              rw [HPC.out]
              clear he
              go_wp2
              go_ret
              exact ⟨ret_bool (namedB_bad HKL.out (by rw [← HX.out]; exact okP_no p (by rw [← HC.out]; omega))).symm, (Below.refl _ _).alloc (Nat.le_refl _) _⟩
            · obtain ⟨h1, h2⟩ := h1
              have d57 : decide ((c : Int) ≤ 57) = false := by simp; omega
              go_wp2_with fail
              refine (HF.out _ _).mono ?_
              rintro e w' ⟨rfl, rfl⟩
              rw [HPC.out]
              clear he
              go_wp2
              go_ret
              exact ⟨ret_bool (namedB_bad HKL.out (by rw [← HX.out]; exact okP_no p (by rw [← HC.out]; omega))).symm, (Below.refl _ _).alloc (Nat.le_refl _) _⟩
            · obtain ⟨h1, h2⟩ := h1
              have d90 : decide ((c : Int) ≤ 90) = false := by simp; omega
              have d57 : decide ((c : Int) ≤ 57) = false := by simp; omega
              go_wp2_with fail
              refine (HF.out _ _).mono ?_
              rintro e w' ⟨rfl, rfl⟩
              rw [HPC.out]
              clear he
              go_wp2
              go_ret
              exact ⟨ret_bool (namedB_bad HKL.out (by rw [← HX.out]; exact okP_no p (by rw [← HC.out]; omega))).symm, (Below.refl _ _).alloc (Nat.le_refl _) _⟩
            · have d90 : decide ((c : Int) ≤ 90) = false := by simp; omega
              have d122 : decide ((c : Int) ≤ 122) = false := by simp; omega
              have d57 : decide ((c : Int) ≤ 57) = false := by simp; omega
              go_wp2_with fail
              refine (HF.out _ _).mono ?_
              rintro e w' ⟨rfl, rfl⟩
              rw [HPC.out]
              clear he
              go_wp2
              go_ret
              exact ⟨ret_bool (namedB_bad HKL.out (by rw [← HX.out]; exact okP_no p (by rw [← HC.out]; omega))).symm, (Below.refl _ _).alloc (Nat.le_refl _) _⟩
          | false =>
            have HPC := Lib.hid hpc
            clear hpc
            go_wp2_with fail
            refine (HF.out _ _).mono ?_
            rintro e w' ⟨rfl, rfl⟩
            rw [HPC.out]
            clear he
            go_wp2
            go_ret
            exact ⟨ret_bool (namedB_bad HKL.out (by rw [← HX.out]; exact okP_first p (by rw [← HC.out]; exact HPC.out))).symm, (Below.refl _ _).alloc (Nat.le_refl _) _⟩
        · have hkb : ((k : Int) == 0) = false := by rw [beq_eq_false_iff_ne]; omega
          rcases (show (65 ≤ (c : Int) ∧ (c : Int) ≤ 90) ∨ (97 ≤ (c : Int) ∧ (c : Int) ≤ 122) ∨ (48 ≤ (c : Int) ∧ (c : Int) ≤ 57) ∨ ((c : Int) < 48) ∨ (57 < (c : Int) ∧ (c : Int) < 65) ∨ (90 < (c : Int) ∧ (c : Int) < 97) ∨ (122 < (c : Int)) by omega) with h1 | h1 | h1 | h1 | h1 | h1 | h1
          · obtain ⟨h1, h2⟩ := h1
            go_wp2
            go_roundw
            case rel => exact ⟨k + 1, by omega, rfl, by rw [okPTo_succ, HOK.out, ← HX.out, okP_yes p (.inl hk0) (by rw [← HC.out]; omega)]; rfl⟩
            case measure => simp; omega
          · obtain ⟨h1, h2⟩ := h1
            have d90 : decide ((c : Int) ≤ 90) = false := by simp; omega
            go_wp2
            go_roundw
            case rel => exact ⟨k + 1, by omega, rfl, by rw [okPTo_succ, HOK.out, ← HX.out, okP_yes p (.inl hk0) (by rw [← HC.out]; omega)]; rfl⟩
            case measure => simp; omega
          · obtain ⟨h1, h2⟩ := h1
            go_wp2
            go_roundw
            case rel => exact ⟨k + 1, by omega, rfl, by rw [okPTo_succ, HOK.out, ← HX.out, okP_yes p (.inl hk0) (by rw [← HC.out]; omega)]; rfl⟩
            case measure => simp; omega
          · go_wp2
            go_ret
            exact ⟨ret_bool (namedB_bad HKL.out (by rw [← HX.out]; exact okP_no p (by rw [← HC.out]; omega))).symm, (Below.refl _ _).alloc (Nat.le_refl _) _⟩
          · obtain ⟨h1, h2⟩ := h1
            have d57 : decide ((c : Int) ≤ 57) = false := by simp; omega
            go_wp2
            go_ret
            exact ⟨ret_bool (namedB_bad HKL.out (by rw [← HX.out]; exact okP_no p (by rw [← HC.out]; omega))).symm, (Below.refl _ _).alloc (Nat.le_refl _) _⟩
          · obtain ⟨h1, h2⟩ := h1
            have d90 : decide ((c : Int) ≤ 90) = false := by simp; omega
            have d57 : decide ((c : Int) ≤ 57) = false := by simp; omega
            go_wp2
            go_ret
            exact ⟨ret_bool (namedB_bad HKL.out (by rw [← HX.out]; exact okP_no p (by rw [← HC.out]; omega))).symm, (Below.refl _ _).alloc (Nat.le_refl _) _⟩
          · have d90 : decide ((c : Int) ≤ 90) = false := by simp; omega
            have d122 : decide ((c : Int) ≤ 122) = false := by simp; omega
            have d57 : decide ((c : Int) ≤ 57) = false := by simp; omega
            go_wp2
            go_ret
            exact ⟨ret_bool (namedB_bad HKL.out (by rw [← HX.out]; exact okP_no p (by rw [← HC.out]; omega))).symm, (Below.refl _ _).alloc (Nat.le_refl _) _⟩
      · have HBAD := Lib.hid (namedB_bad (p := p) HKL.out (by rw [← HX.out]; exact okP_no p (by omega)))
        clear h128
        have hnx := HNX.out
        clear HNX
        generalize (Utf8.decode (S l) k).2 = d at hnx hd1
        generalize (Utf8.decode (S l) k).1 = r at hnx hr1 hr2
        have hr3 : (122 : Int) < (r : Int) := by omega
        have d90 : decide ((r : Int) ≤ 90) = false := by simp; omega
        have d122 : decide ((r : Int) ≤ 122) = false := by simp; omega
        have d57 : decide ((r : Int) ≤ 57) = false := by simp; omega
        have HPC := Lib.hid (HPL.out (r : Int) (by omega))
        clear hr1 hr2
        by_cases hk0 : k = 0
        · subst hk0
          have he := HE.out
          go_wp2_with fail
          refine (HF.out _ _).mono ?_
          rintro e w' ⟨rfl, rfl⟩
          rw [HPC.out]
          clear he
          go_wp2
          go_ret
          exact ⟨ret_bool HBAD.out.symm, (Below.refl _ _).alloc (Nat.le_refl _) _⟩
        · have hkb : ((k : Int) == 0) = false := by rw [beq_eq_false_iff_ne]; omega
          go_wp2
          go_ret
          exact ⟨ret_bool HBAD.out.symm, (Below.refl _ _).alloc (Nat.le_refl _) _⟩
    · have hke : k = l.length := by have := HN.out; omega
      have hfin : namedB p l = true := by
        unfold namedB
        rw [← hke, HOK.out, Bool.true_and]
        have : l ≠ [] := HN0.out
        have : 0 < l.length := List.length_pos_iff.2 this
        simp
        omega
      have HFIN := Lib.hid hfin
      have hnx : ∀ ty, (Instr.next (.pointer (some ⟨w.heap.size, 0, none⟩)) true ty).run Tryz.prog (w.iter (S l) k) = _ := fun ty => run_next_end w (S l) k ty (by rw [S_size]; omega)
      clear hfin hke
      go_wp2
      go_ret
      exact ⟨ret_bool HFIN.out.symm, (Below.refl _ _).alloc (Nat.le_refl _) _⟩
end Go.Proofs.YtpincofjopmaaaaGreatDoor
namespace Go.Proofs.YtpincofjopmaaaaGreatDoor
open Go.RowKit
theorem enters_fn {f : FuncId} {fn : Func} {c : Code} (hf : Tryz.prog.funcs[f]? = some fn) (hname : (fn.name == "runtime.NumGoroutine") = false) (hb : fn.body = some c) (args : Array Value) (w : World) : (callFunc f args).run Tryz.prog w = .ok (.enter f args) w := by
  have h1 : fn.name ≠ "runtime.NumGoroutine" := by simpa using hname
  simp [callFunc, hf, h1, hb, mark]
theorem named_up (l : List UInt8) (w : World) (hlim : l.length ≤ 9223372036854775807) :
    Calls Tryz.prog 226 #[.string (S l), .func (.func 227) #[] #[]] w (Said (classB l) w) := by
  rw [← namedB_up]
  exact named_any _ upI (enters_fn Tryz.func227 (by kernel_rfl) rfl) upper_any (fun r h => by unfold upI; simp; omega) l w hlim
theorem named_lo (l : List UInt8) (w : World) (hlim : l.length ≤ 9223372036854775807) :
    Calls Tryz.prog 226 #[.string (S l), .func (.func 261) #[] #[]] w (Said (memberB l) w) := by
  rw [← namedB_lo]
  exact named_any _ loI (enters_fn Tryz.func261 (by kernel_rfl) rfl) lower_any (fun r h => by unfold loI; simp; omega) l w hlim
theorem named_le (l : List UInt8) (w : World) (hlim : l.length ≤ 9223372036854775807) :
    Calls Tryz.prog 226 #[.string (S l), .func (.func 263) #[] #[]] w (Said (nameB l) w) := by
  rw [← namedB_le]
  exact named_any _ leI (enters_fn Tryz.func263 (by kernel_rfl) rfl) letter_any (fun r h => by unfold leI upI loI; simp; omega) l w hlim
theorem name_any (l : List UInt8) (w : World) (hlim : l.length ≤ 9223372036854775807) :
    Calls Tryz.prog 233 #[.string (S l)] w (Said (nameB l) w) := by
  go_enter Tryz.func233, Tryz.ntmps233
  go_wp2_with fail
  refine (named_le l w hlim).mono ?_
  rintro e w' ⟨rfl, hb⟩
  go_wp2
  go_ret
  exact ⟨rfl, hb⟩
theorem class_any (l : List UInt8) (w : World) (hlim : l.length ≤ 9223372036854775807) :
    Calls Tryz.prog 162 #[.string (S l)] w (Said (classB l) w) := by
  go_enter Tryz.func162, Tryz.ntmps162
  go_wp2_with fail
  refine (named_up l w hlim).mono ?_
  rintro e w' ⟨rfl, hb⟩
  go_wp2
  go_ret
  exact ⟨rfl, hb⟩
theorem plain_any (l : List UInt8) (w : World) :
    Calls Tryz.prog 75 #[.string (S l)] w fun e w' => e = .returned (.bool (plainB l)) ∧ w = w' := by
  have e0 := S_toList l
  by_cases h1 : l = kInt
  · have q1 : ((S l).toList == [105, 110, 116]) = true := by rw [e0, h1]; rfl
    have HP := Lib.hid (show plainB l = true by unfold plainB; simp [h1])
    clear e0 h1
    go_enter Tryz.func75, Tryz.ntmps75
    go_wp2
    go_ret
    exact ⟨ret_bool HP.out.symm, rfl⟩
  have q1 : ((S l).toList == [105, 110, 116]) = false := by rw [e0, beq_eq_false_iff_ne]; exact h1
  by_cases h2 : l = kBool
  · have q2 : ((S l).toList == [98, 111, 111, 108]) = true := by rw [e0, h2]; rfl
    have HP := Lib.hid (show plainB l = true by unfold plainB; simp [h2])
    clear e0 h1 h2
    go_enter Tryz.func75, Tryz.ntmps75
    go_wp2
    go_ret
    exact ⟨ret_bool HP.out.symm, rfl⟩
  have q2 : ((S l).toList == [98, 111, 111, 108]) = false := by rw [e0, beq_eq_false_iff_ne]; exact h2
  have HP := Lib.hid (show plainB l = ((S l).toList == [116, 101, 120, 116]) by
    rw [e0]; unfold plainB
    rw [decide_eq_false h1, decide_eq_false h2, Bool.false_or, Bool.false_or, Bool.eq_iff_iff, decide_eq_true_eq, beq_iff_eq]; rfl)
  clear e0 h1 h2
  go_enter Tryz.func75, Tryz.ntmps75
  go_wp2
  go_ret
  exact ⟨ret_bool HP.out.symm, rfl⟩
end Go.Proofs.YtpincofjopmaaaaGreatDoor
