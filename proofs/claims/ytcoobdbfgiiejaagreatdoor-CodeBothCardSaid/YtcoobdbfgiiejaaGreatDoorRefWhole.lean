/-
  The contracts of the document's Whole and Text over the program.
  Conditions: the text is at most 2^62 bytes.
-/
import Derived.Test.YtcoobdbfgiiejaaGreatDoorRefText
import Derived.Lib.Bytes
namespace Go.Proofs.YtcoobdbfgiiejaaGreatDoor
open Go.RowKit Go.Lib
theorem charB_S (l : List UInt8) : charB (S l) = charL l := by unfold charB charL; rw [S_size, S_get, S_get, S_get, S_get]
set_option maxHeartbeats 2000000 in
set_option maxRecDepth 100000 in
theorem whole_any (s : List UInt8) (w : World) (hs : s.length ≤ 4611686018427387904) :
    Calls Tryz.prog 59 #[.string (S s)] w fun e w' => e = .returned (.bool (validD s)) ∧ ∃ q, w' = w.drewN q := by
  obtain ⟨R, hR⟩ : ∃ R, R = validD s := ⟨_, rfl⟩
  rw [← hR]
  have HR := Lib.hid hR
  clear hR
  go_enter Tryz.func59, Tryz.ntmps59
  go_wp2
  go_loopg [0] (s.length + 1) (fun gk v0 wr => (∃ q, wr = w.drewN q) ∧ ∃ t : List UInt8, v0 = .string (S t) ∧ validD t = R ∧ t.length < gk ∧ t.length ≤ 4611686018427387904)
  case atStart => exact ⟨⟨0, rfl⟩, s, rfl, HR.out.symm, by omega, hs⟩
  case round =>
    obtain ⟨⟨q, rfl⟩, t, rfl, hv, hg, hts⟩ := hrel
    have HV := Lib.hid hv
    clear hv
    cases t with
    | nil =>
      have hR : R = true := by rw [← HV.out]; rfl
      subst hR
      rw [show S [] = ⟨#[]⟩ from rfl]
      go_wp2
      go_ret
      exact ⟨rfl, _, rfl⟩
    | cons b t =>
      rw [List.length_cons] at hg hts
      obtain ⟨u, hu⟩ : ∃ u, u = S (b :: t) := ⟨_, rfl⟩
      have hus : u.size = t.length + 1 := by rw [hu, S_size]; rfl
      have HCH := Lib.hid (char_any u (w.drewN q) (by omega))
      have hl : t.length + 1 ≤ 4611686018427387904 := hts
      have hK := charL_le (b :: t) (by simp)
      rw [← charB_S, ← hu] at hK
      obtain ⟨K, hKK⟩ : ∃ K, K = charB u := ⟨_, rfl⟩
      rw [← hKK] at HCH hK
      rw [← hu]
      have h1 : (0 : Int) < (u.size : Int) := by omega
      have h2 : (K : Int) ≤ (u.size : Int) := by rw [hus]; simp at hK; omega
      have hsz : (u.size : Int) ≤ 4611686018427387904 := by omega
      have hne : (!u.toList.isEmpty) = true := by rw [hu, S_toList]; rfl
      have HU := Lib.hid hu
      have HUS := Lib.hid hus
      have HKK := Lib.hid hKK
      clear hu hus hKK
      go_wp2_with (go_at_call 84; refine HCH.out.mono ?_; rintro e w1 ⟨rfl, q1, rfl⟩)
      · go_ret
        have hk0 : ((K : Int) == 0) = true := by assumption
        rw [beq_iff_eq] at hk0
        have hb : validD (b :: t) = false := by
          rw [valid_char _ (by simp), ← charB_S, ← HU.out, ← HKK.out, if_pos (by omega)]
        exact ⟨by rw [← HV.out, hb]; rfl, _, rfl⟩
      · have hk0 : ((K : Int) == 0) = false := by assumption
        rw [beq_eq_false_iff_ne] at hk0
        have hb : validD (b :: t) = validD ((b :: t).drop K) := by
          rw [valid_char _ (by simp), ← charB_S, ← HU.out, ← HKK.out, if_neg (by omega)]
        obtain ⟨g', rfl⟩ : ∃ g', gk = g' + 1 := ⟨gk - 1, by omega⟩
        go_roundg g'
        case measure => omega
        case rel => exact ⟨⟨_, rfl⟩, (b :: t).drop K, by rw [HU.out, S_drop], by rw [← hb]; exact HV.out, by rw [List.length_drop, List.length_cons]; omega, by rw [List.length_drop, List.length_cons]; omega⟩
set_option maxHeartbeats 2000000 in
set_option maxRecDepth 100000 in
theorem reftext_any (s : List UInt8) (w : World) (hs : s.length ≤ 4611686018427387904) :
    Calls Tryz.prog 37 #[.string (S s)] w fun e w' => e = .returned (.string (S (textBytes s))) ∧ Below w.heap.size w w' := by
  have hl := Lib.uvarint_length64 (x := s.length) (by omega)
  have HV := Lib.hid (refvar_any s.length (by omega) w)
  have h1 : (S s).size ≤ 4611686018427387904 := by rw [S_size]; exact hs
  have h2 : (S (Lib.uvarint s.length)).size ≤ 10 := by rw [S_size]; exact hl
  have h3 : ((S s).size : Int) = (s.length : Int) := by rw [S_size]
  unfold textBytes
  rw [← S_append]
  clear hl
  obtain ⟨u, hu⟩ : ∃ u, u = S (Lib.uvarint s.length) := ⟨_, rfl⟩
  rw [← hu] at HV h2 ⊢
  clear hu
  go_enter Tryz.func37, Tryz.ntmps37
  go_wp2_with (go_at_call 17; refine HV.out.mono ?_; rintro e w1 ⟨rfl, hb⟩)
  go_ret
  exact ⟨rfl, hb⟩
theorem refint_any (n : Int) (w : World) (h0 : -9223372036854775808 ≤ n) (h1 : n ≤ 9223372036854775807) :
    Calls Tryz.prog 36 #[.int .i64 n] w fun e w' => e = .returned (.string (S (Lib.uvarint (Lib.zigzag n)))) ∧ Below w.heap.size w w' := by
  have HZ := Lib.hid (refzig_any n w h0 h1)
  have HV := Lib.hid (refvar_any (Lib.zigzag n) (Lib.zigzag_lt h0 h1) w)
  go_enter Tryz.func36, Tryz.ntmps36
  go_wp2_with (first | (go_at_call 65; refine HZ.out.mono ?_; rintro e w1 ⟨rfl, rfl⟩) | (go_at_call 17; refine HV.out.mono ?_; rintro e w1 ⟨rfl, hb⟩))
  go_ret
  exact ⟨rfl, hb⟩
end Go.Proofs.YtcoobdbfgiiejaaGreatDoor
