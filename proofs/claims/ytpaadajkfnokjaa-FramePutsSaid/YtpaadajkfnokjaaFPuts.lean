/-
  FramePuts's contract: it answers true at any text and any number, and writes nothing that was there.
  Conditions: the number is a uint16.
-/
import Derived.Test.YtpaadajkfnokjaaFXor
import Derived.Test.YtpaadajkfnokjaaFRefPut
import Derived.Deep.RegionHeld
namespace Go.Proofs.Ytpaadajkfnokjaa
open Go.RowKit
set_option maxHeartbeats 8000000 in
set_option maxRecDepth 100000 in
theorem puts_small (s : List UInt8) (n : Nat) (w : World) (hz : (s.length : Int) ≤ 2000) (hn : n < 65536) :
    Calls Try.prog 4 #[.string (S s), .int .u16 n] w fun e w' => e = .returned (.bool true) ∧ Below w.heap.size w w' := by
  have hsz : ((S s).size : Int) = (s.length : Int) := by rw [S_size]
  have HA := Lib.hid awake_any
  have hcv := conv_back s w
  have HS1 := Lib.hid (back_srcC s w)
  have HB1 := Lib.hid (below_back s w)
  generalize Lib.bytesWorld w 5 (S s) = w1 at hcv HS1 HB1
  go_enter Try.func4, Try.ntmps4
  go_wp2_with fail
  refine (put_ok s _ w1 HS1.out (by omega)).mono ?_
  rintro e w2 ⟨v5, rfl, hbs⟩
  have B2 := Lib.hid (HB1.out.trans (hbs.bel.mono HB1.out.size))
  have H5 := Lib.hid hbs.srcC
  clear hcv HS1 HB1 hbs
  go_wp2_with fail
  refine (get_any (putL s) _ w2 H5.out (by rw [putL_length]; omega)).mono ?_
  rintro e w3 ⟨hb3, hg⟩
  have B3 := Lib.hid (B2.out.trans (hb3.mono B2.out.size))
  have H53 := Lib.hid (H5.out.src.below hb3)
  clear hb3 B2 H5
  rcases hg with ⟨_, _, v7, rfl, hsrc⟩ | ⟨_, hok, _⟩ | ⟨h, _⟩
  · rw [putL_length, show s.length + 4 - 4 = s.length by omega, take_put] at hsrc
    have H7 := Lib.hid hsrc
    clear hsrc
    obtain ⟨w4, hmk, hz4⟩ := make_any n w3 (by omega)
    have B4 := Lib.hid (B3.out.trans (hz4.bel.mono B3.out.size))
    have H54 := Lib.hid (H53.out.below hz4.bel)
    have H74 := Lib.hid (H7.out.below hz4.bel)
    have HZ := Lib.hid hz4.srcC
    clear B3 H53 H7 hz4
    have HRP : Hid (∀ W, Calls Try.prog 16 #[.string (S s)] W fun e w' => e = .returned (.string (S (putL s))) ∧ Below W.heap.size W w') := fun W => refput_any s W (by omega)
    by_cases hn8 : n ≤ 32768
    · have hn8' : (n : Int) ≤ 32768 := by omega
      go_wp2_with fail
      refine (put_ok (List.replicate n 0) _ w4 HZ.out (by rw [List.length_replicate]; exact hn8)).mono ?_
      rintro e w5 ⟨v9, rfl, hb9⟩
      have B5 := Lib.hid (B4.out.trans (hb9.bel.mono B4.out.size))
      have H55 := Lib.hid (H54.out.below hb9.bel)
      have H75 := Lib.hid (H74.out.below hb9.bel)
      clear hmk B4 H54 H74 HZ hb9
      have hnb : decide ((n : Int) ≤ 32768) = true := by simpa using hn8'
      go_wp2_with fail
      have HCV : Hid (∀ W, Below w5.heap.size w5 W → Sem.run Try.prog (convert 25 9 v5) W = .ok (.string (S (putL s))) W ∧ Sem.run Try.prog (convert 25 9 v7) W = .ok (.string (S s)) W) := fun W hW => ⟨conv_src (H55.out.below hW), conv_src (H75.out.below hW)⟩
      clear H55 H75
      first
      | (go_region_held (fun W => Sem.run Try.prog (convert 25 9 v5) W = .ok (.string (S (putL s))) W ∧ Sem.run Try.prog (convert 25 9 v7) W = .ok (.string (S s)) W) (first | with_reducible exact HCV.out _ b2 | with_reducible exact HCV.out _ b1 | with_reducible exact HCV.out _ ((Below.refl _ _).drew))
        (first | (go_at_call 10; refine (HA.out _).mono ?_; rintro e wA ⟨rfl, bA⟩; have b1 := ((Below.refl w5.heap.size w5).drew).trans bA) | (go_at_call 16; refine (HRP.out _).mono ?_; rintro e wR ⟨rfl, bR⟩; have b2 := b1.trans (bR.mono b1.size))))
      | fail
      all_goals go_wp2
      all_goals go_ret
      all_goals exact ⟨rfl, B5.out.trans (b2.mono B5.out.size)⟩
    · have hn9 : (32768 : Int) < (n : Int) := by omega
      go_wp2_with fail
      refine (put_long _ n n w4 (by omega)).mono ?_
      rintro e w5 ⟨rfl, rfl⟩
      obtain ⟨w5, rfl⟩ : ∃ w5, w5 = w4 := ⟨_, rfl⟩
      have B5 := B4
      have H55 := H54
      have H75 := H74
      have hnb : decide ((n : Int) ≤ 32768) = false := by simp; omega
      clear hmk B4 H54 H74 HZ
      go_wp2_with fail
      have HCV : Hid (∀ W, Below w5.heap.size w5 W → Sem.run Try.prog (convert 25 9 v5) W = .ok (.string (S (putL s))) W ∧ Sem.run Try.prog (convert 25 9 v7) W = .ok (.string (S s)) W) := fun W hW => ⟨conv_src (H55.out.below hW), conv_src (H75.out.below hW)⟩
      clear H55 H75
      first
      | (go_region_held (fun W => Sem.run Try.prog (convert 25 9 v5) W = .ok (.string (S (putL s))) W ∧ Sem.run Try.prog (convert 25 9 v7) W = .ok (.string (S s)) W) (first | with_reducible exact HCV.out _ b2 | with_reducible exact HCV.out _ b1 | with_reducible exact HCV.out _ ((Below.refl _ _).drew))
        (first | (go_at_call 10; refine (HA.out _).mono ?_; rintro e wA ⟨rfl, bA⟩; have b1 := ((Below.refl w5.heap.size w5).drew).trans bA) | (go_at_call 16; refine (HRP.out _).mono ?_; rintro e wR ⟨rfl, bR⟩; have b2 := b1.trans (bR.mono b1.size))))
      | fail
      all_goals go_wp2
      all_goals go_ret
      all_goals exact ⟨rfl, B5.out.trans (b2.mono B5.out.size)⟩
  · rw [okL_put] at hok; cases hok
  · rw [putL_length] at h; omega
set_option maxHeartbeats 400000 in
set_option maxRecDepth 100000 in
theorem puts_any (s : List UInt8) (n : Nat) (w : World) (hs : s.length ≤ 9223372036854775807) (hn : n < 65536) :
    Calls Try.prog 4 #[.string (S s), .int .u16 n] w fun e w' => e = .returned (.bool true) ∧ Below w.heap.size w w' := by
  by_cases hall : (s.length : Int) ≤ 2000
  · exact puts_small s n w hall hn
  have hsz : ((S s).size : Int) = (s.length : Int) := by rw [S_size]
  have HA := Lib.hid awake_any
  have h1 : (2000 : Int) < (s.length : Int) := by omega
  clear hall
  go_enter Try.func4, Try.ntmps4
  go_wp2_with (go_at_call 10; refine (HA.out _).mono ?_; rintro e w1 ⟨rfl, hb⟩)
  go_ret
  exact ⟨rfl, hb⟩
end Go.Proofs.Ytpaadajkfnokjaa
