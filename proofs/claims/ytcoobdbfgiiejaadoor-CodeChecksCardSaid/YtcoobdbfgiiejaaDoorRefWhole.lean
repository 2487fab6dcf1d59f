/-
  The contracts of the document's Whole and Text over the program.
  Conditions: the text is at most 2^62 bytes.
-/
import Derived.Test.YtcoobdbfgiiejaaDoorRefText
import Derived.Lib.Bytes
namespace Go.Proofs.YtcoobdbfgiiejaaDoor
open Go.RowKit Go.Lib
theorem charB_S (l : List UInt8) : charB (S l) = charL l := by unfold charB charL; rw [S_size, S_get, S_get, S_get, S_get]
set_option maxHeartbeats 2000000 in
set_option maxRecDepth 100000 in
theorem whole_any (s : List UInt8) (w : World) (hs : s.length ≤ 4611686018427387904) :
    Calls Tryd.prog 19 #[.string (S s)] w fun e w' => e = .returned (.bool (validD s)) ∧ ∃ q, w' = w.drewN q := by
  obtain ⟨R, hR⟩ : ∃ R, R = validD s := ⟨_, rfl⟩
  rw [← hR]
  have HR := Lib.hid hR
  clear hR
  go_enter Tryd.func19, Tryd.ntmps19
  go_wp2
  go_loopg [0] (s.length + 1) (fun gk v0 wr => (∃ q, wr = w.drewN q) ∧ ∃ t : List UInt8, v0 = .string (S t) ∧ validD t = R ∧ t.length < gk ∧ t.length ≤ 4611686018427387904)
  case atStart => exact ⟨⟨0, rfl⟩, s, rfl, HR.out.symm, by omega, hs⟩
  case round =>
    obtain ⟨⟨q, rfl⟩, t, rfl, hv, hg, hts⟩ := hrel
    have HV := Lib.hid hv
    clear hv
    cases t with
    | nil =>
      have hR : R = true := by rw [← HV.out]; rfl
      subst hR
      rw [show S [] = ⟨#[]⟩ from rfl]
      go_wp2
      go_ret
      exact ⟨rfl, _, rfl⟩
    | cons b t =>
      rw [List.length_cons] at hg hts
      obtain ⟨u, hu⟩ : ∃ u, u = S (b :: t) := ⟨_, rfl⟩
      have hus : u.size = t.length + 1 := by rw [hu, S_size]; rfl
      have HCH := Lib.hid (char_any u (w.drewN q) (by omega))
      have hl : t.length + 1 ≤ 4611686018427387904 := hts
      have hK := charL_le (b :: t) (by simp)
      rw [← charB_S, ← hu] at hK
      obtain ⟨K, hKK⟩ : ∃ K, K = charB u := ⟨_, rfl⟩
      rw [← hKK] at HCH hK
      rw [← hu]
      have h1 : (0 : Int) < (u.size : Int) := by omega
      have h2 : (K : Int) ≤ (u.size : Int) := by rw [hus]; simp at hK; omega
      have hsz : (u.size : Int) ≤ 4611686018427387904 := by omega
      have hne : (!u.toList.isEmpty) = true := by rw [hu, S_toList]; rfl
      have HU := Lib.hid hu
      have HUS := Lib.hid hus
      have HKK := Lib.hid hKK
      clear hu hus hKK
      go_wp2_with (go_at_call 44; refine HCH.out.mono ?_; rintro e w1 ⟨rfl, q1, rfl⟩)
      · go_ret
        have hk0 : ((K : Int) == 0) = true := by assumption
        rw [beq_iff_eq] at hk0
        have hb : validD (b :: t) = false := by
          rw [valid_char _ (by simp), ← charB_S, ← HU.out, ← HKK.out, if_pos (by omega)]
        exact ⟨by rw [← HV.out, hb]; rfl, _, rfl⟩
      · have hk0 : ((K : Int) == 0) = false := by assumption
        rw [beq_eq_false_iff_ne] at hk0
        have hb : validD (b :: t) = validD ((b :: t).drop K) := by
          rw [valid_char _ (by simp), ← charB_S, ← HU.out, ← HKK.out, if_neg (by omega)]
        obtain ⟨g', rfl⟩ : ∃ g', gk = g' + 1 := ⟨gk - 1, by omega⟩
        go_roundg g'
        case measure => omega
        case rel => exact ⟨⟨_, rfl⟩, (b :: t).drop K, by rw [HU.out, S_drop], by rw [← hb]; exact HV.out, by rw [List.length_drop, List.length_cons]; omega, by rw [List.length_drop, List.length_cons]; omega⟩
end Go.Proofs.YtcoobdbfgiiejaaDoor
