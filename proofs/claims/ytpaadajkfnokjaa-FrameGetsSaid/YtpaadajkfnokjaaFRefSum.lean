/-
  The contracts of the document's Sum, Put and Get: bit by bit.
  Conditions: the text has fewer than 2^40 bytes.
-/
import Derived.Test.YtpaadajkfnokjaaStr
import Derived.Test.YtpaadajkfnokjaaBits
import Derived.Test.YtpaadajkfnokjaaCrc
import Derived.IntWalk
namespace Go.Proofs.Ytpaadajkfnokjaa
open Go.RowKit
set_option maxHeartbeats 400000 in
set_option maxRecDepth 100000 in
theorem refsum_any (l : List UInt8) (w : World) (hlim : l.length ≤ 1099511627776) :
    Calls Try.prog 12 #[.string (S l)] w fun e w' => e = .returned (.int .u32 (sumOf l : Nat)) ∧ w = w' := by
  have hsz : ((S l).size : Int) = (l.length : Int) := by rw [S_size]
  obtain ⟨n, hn⟩ : ∃ n, n = l.length := ⟨_, rfl⟩
  rw [← hn] at hsz
  have HN := Lib.hid hn
  have hn1 : n ≤ 1099511627776 := by omega
  clear hn hlim
  go_enter Try.func12, Try.ntmps12
  go_wp2
  go_loop [3, 4] (fun v3 v4 => ∃ k : Nat, k ≤ n ∧ v4 = .int .i64 k ∧ v3 = .int .u32 (reg 4294967295 (l.take k) : Nat)) (fun _ v4 => n - (intOf v4).toNat)
  case atStart => exact ⟨0, Nat.zero_le _, rfl, rfl⟩
  case round =>
    obtain ⟨k, hk, rfl, rfl⟩ := hrel
    obtain ⟨r, hr⟩ : ∃ r, r = reg 4294967295 (l.take k) := ⟨_, rfl⟩
    rw [← hr]
    have hr32 : r < 4294967296 := by rw [hr]; exact reg_lt _ _ (by omega)
    have HRR := Lib.hid hr
    clear hr
    by_cases hlt : k < n
    · have hkl : k < l.length := by have := HN.out; omega
      obtain ⟨c, hcc⟩ : ∃ c, c = (l.getD k 0).toNat := ⟨_, rfl⟩
      have hc256 : c < 256 := by rw [hcc]; exact UInt8.toNat_lt _
      have HCC := Lib.hid hcc
      have hget : ∀ h : k < (S l).size, ((S l)[k]'h).toNat = c := fun h => by
        rw [hcc]
        simp [S, List.getD, List.getElem?_eq_getElem hkl]
        rfl
      clear hcc
      go_wp2
      go_loop [3, 5] (fun v3 v5 => ∃ j : Nat, j ≤ 8 ∧ v5 = .int .i64 j ∧ v3 = .int .u32 (Tn j (r ^^^ c % 2 ^ j) : Nat)) (fun _ v5 => 8 - (intOf v5).toNat)
      case atStart => exact ⟨0, by decide, rfl, by rw [Tn_0]; simp [Nat.mod_one]⟩
      case round =>
        obtain ⟨j, hj, rfl, rfl⟩ := hrel
        by_cases hlt8 : j < 8
        · obtain ⟨t, ht⟩ : ∃ t, t = Tn j (r ^^^ c % 2 ^ j) := ⟨_, rfl⟩
          obtain ⟨q, hq⟩ : ∃ q, q = c / 2 ^ j := ⟨_, rfl⟩
          rw [← ht]
          have ht32 : t < 4294967296 := by rw [ht]; exact Tn_lt _ _ (xor_lt _ _ hr32 (Nat.lt_of_le_of_lt (Nat.mod_le _ _) (by omega)))
          have hq256 : q < 256 := by rw [hq]; exact Nat.lt_of_le_of_lt (Nat.div_le_self _ _) hc256
          have hmore := bit_more j r c
          rw [← ht, ← hq] at hmore
          have hq2 : (c : Int) / 2 ^ j = (q : Int) := by rw [hq]; push_cast; rfl
          have HM := Lib.hid hmore
          clear hmore ht hq
          by_cases hb : q % 2 = t % 2
          · have hb2 : ((q : Int) % 2 != (t : Int) % 2) = false := by rw [bne_eq_false_iff_eq]; omega
            go_wp2
            go_round
            case rel => exact ⟨j + 1, by omega, by go_num, by rw [← HM.out, xor_bit t _ (Nat.mod_lt _ (by decide)), if_pos hb.symm]; rfl⟩
            case measure => simp [intOf]; omega
          · have hb2 : ((q : Int) % 2 != (t : Int) % 2) = true := by rw [bne_iff_ne]; omega
            have hx := xor_u32 (t / 2) 3988292384 (by omega) (by decide)
            have hx2 : bits .xor .u32 ((t : Int) / 2) 3988292384 = ((t / 2 ^^^ 3988292384 : Nat) : Int) := hx
            have HX := Lib.hid hx2
            clear hx hx2
            go_wp2
            go_round
            case rel => exact ⟨j + 1, by omega, by go_num, by rw [HX.out, ← HM.out, xor_bit t _ (Nat.mod_lt _ (by decide)), if_neg (fun h => hb h.symm)]; rfl⟩
            case measure => simp [intOf]; omega
        · obtain rfl : j = 8 := by omega
          have hm : Tn 8 (r ^^^ c % 2 ^ 8) = reg 4294967295 (l.take (k + 1)) := by
            rw [List.take_succ_eq_append_getElem hkl, reg_snoc, ← HRR.out, Nat.mod_eq_of_lt hc256, HCC.out]
            simp [List.getD, List.getElem?_eq_getElem hkl]
          rw [hm]
          clear hm
          go_wp2
          go_round
          case rel => exact ⟨k + 1, by omega, by go_num, rfl⟩
          case measure => simp [intOf]; omega
    · have hkn : l.take k = l := List.take_of_length_le (by have := HN.out; omega)
      have HF := Lib.hid (show sumOf l = 4294967295 - r by rw [sumOf_eq, HRR.out, hkn])
      clear hkn
      go_wp2
      go_ret
      exact ⟨ret_int (by rw [HF.out]; omega), rfl⟩
end Go.Proofs.Ytpaadajkfnokjaa
