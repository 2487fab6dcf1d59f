/-
  KindUnwraps's contract: it answers true at any text, and writes nothing that was there.
  Conditions: none.
-/
import Derived.Test.YthefgkllplodfaaKAwake
namespace Go.Proofs.Ythefgkllplodfaa
open Go.RowKit
/-- So many pairs of brackets put behind. -/
def wrapL : Nat → List UInt8 → List UInt8
  | 0, r => r
  | k + 1, r => wrapL k (ofL r)
theorem right_len {l : List UInt8} (h : rightB l = true) : l.length ≤ 38 ∧ deepN l ≤ 3 := by
  have h1 := (nameB_pos (right_base h)).2
  rw [baseL_length] at h1
  have h2 := deepN_le l
  unfold rightB at h
  simp at h
  exact ⟨by omega, h.1⟩
/-- Where the first loop stands: so many pairs are off. -/
def Un (l : List UInt8) (k : Nat) (r : List UInt8) : Prop := rightB r = true ∧ deepN r + k = deepN l ∧ wrapL k r = l
theorem un_zero {l : List UInt8} (h : rightB l = true) : Un l 0 l := ⟨h, rfl, rfl⟩
theorem un_next {l r : List UInt8} {k : Nat} (h : Un l k r) (hk : k < deepN l) : Un l (k + 1) (elemL r) := by
  obtain ⟨h1, h2, h3⟩ := h
  obtain ⟨e1, e2, e3⟩ := elem_right h1 (by omega)
  exact ⟨e1, by omega, by show wrapL k (ofL (elemL r)) = l; rw [e3]; exact h3⟩
/-- Where the second loop stands: so many pairs are behind again. -/
def Re (l : List UInt8) (j : Nat) (r : List UInt8) : Prop := rightB r = true ∧ deepN r = j ∧ j ≤ deepN l ∧ wrapL (deepN l - j) r = l
theorem re_zero {l r : List UInt8} (h : Un l (deepN l) r) : Re l 0 r := ⟨h.1, by have := h.2.1; omega, by omega, h.2.2⟩
theorem re_next {l r : List UInt8} {j : Nat} (h : Re l j r) (hj : j < deepN l) (h3 : deepN l ≤ 3) : Re l (j + 1) (ofL r) := by
  obtain ⟨h1, h2, _, h4⟩ := h
  refine ⟨by rw [ofL_right, h1, decide_eq_true (by omega)]; rfl, by rw [ofL_deep, h2], by omega, ?_⟩
  rw [show deepN l - j = (deepN l - (j + 1)) + 1 by omega] at h4
  exact h4
theorem re_end {l r : List UInt8} (h : Re l (deepN l) r) : r = l := by
  have := h.2.2.2
  rw [Nat.sub_self] at this
  exact this
set_option maxHeartbeats 1000000 in
set_option maxRecDepth 100000 in
theorem kunwraps_any (l : List UInt8) (w : World) (hs : l.length ≤ 9223372036854775807) :
    Calls Try.prog 8 #[.string (S l)] w fun e w' => e = .returned (.bool true) ∧ Below w.heap.size w w' := by
  have hsz : ((S l).size : Int) = (l.length : Int) := by rw [S_size]
  have HA := Lib.hid awake_any
  by_cases hbig : 300 < l.length
  · have hz : (300 : Int) < (l.length : Int) := by omega
    go_enter Try.func8, Try.ntmps8
    go_wp2_with (go_at_call 9; refine (HA.out _).mono ?_; rintro e w1 ⟨rfl, hb⟩)
    go_ret
    exact ⟨rfl, hb⟩
  have hz : (l.length : Int) ≤ 300 := by omega
  have hlim : l.length ≤ 1099511627776 := by omega
  have HR := Lib.hid (fun w => right_any l w hlim)
  unfold Said at HR
  cases hr : rightB l with
  | false =>
    rw [hr] at HR
    clear hr
    go_enter Try.func8, Try.ntmps8
    go_wp2_with fail
    refine (HR.out _).mono ?_
    rintro e w1 ⟨rfl, h1⟩
    have c1 := h1
    go_wp2_with fail
    refine (HA.out _).mono ?_
    rintro e w2 ⟨rfl, h2⟩
    have c2 := c1.trans (h2.mono c1.size)
    go_wp2
    go_ret
    exact ⟨rfl, c2⟩
  | true =>
    rw [hr] at HR
    have HD := Lib.hid (fun w => deep_any l w hlim)
    unfold SaidN at HD
    rw [depN_right hr] at HD
    have hd3 := (right_len hr).2
    have HU := Lib.hid (un_zero hr)
    clear hr
    obtain ⟨N, hN⟩ : ∃ N, N = deepN l := ⟨_, rfl⟩
    have HNN := Lib.hid hN
    rw [← hN] at HD hd3
    clear hN
    go_enter Try.func8, Try.ntmps8
    go_wp2_with fail
    refine (HR.out _).mono ?_
    rintro e w1 ⟨rfl, c1⟩
    have C1 := Lib.hid c1
    clear c1
    go_wp2_with fail
    refine (HD.out _).mono ?_
    rintro e w2 ⟨rfl, h2⟩
    have C2 := Lib.hid (C1.out.trans (h2.mono C1.out.size))
    clear h2 C1
    go_wp2
    go_loopw [4, 5] (fun v4 v5 wr => ∃ (k : Nat) (r : List UInt8), k ≤ N ∧ v4 = .string (S r) ∧ v5 = .int .i64 k ∧ Un l k r ∧ Below w.heap.size w wr) (fun _ v5 _ => N - (intOf v5).toNat)
    case atStart => exact ⟨0, l, Nat.zero_le _, rfl, rfl, HU.out, C2.out⟩
    case round =>
      obtain ⟨k, r, hk, rfl, rfl, hun, hbel⟩ := hrel
      have HUN := Lib.hid hun
      have HBEL := Lib.hid hbel
      have hrl : r.length ≤ 1099511627776 := by have := (right_len hun.1).1; omega
      have HE := Lib.hid (fun w => elem_any r w hrl)
      unfold SaidS at HE
      clear hun hbel
      by_cases hlt : k < N
      · have HNX := Lib.hid (un_next HUN.out (by rw [← HNN.out]; exact hlt))
        go_wp2_with fail
        refine (HE.out _).mono ?_
        rintro e w3 ⟨rfl, h3⟩
        have C3 := Lib.hid (HBEL.out.trans (h3.mono HBEL.out.size))
        clear h3
        go_wp2
        go_roundw
        case rel => exact ⟨k + 1, elemL r, by omega, rfl, by go_num, HNX.out, C3.out⟩
        case measure => simp [intOf]; omega
      · obtain rfl : k = N := by omega
        have hun : Un l (deepN l) r := by have := HUN.out; rw [HNN.out] at this; exact this
        have hd0 : deepN r = 0 := by have := hun.2.1; omega
        have HEM : Hid (elemL r = []) := by show elemL r = []; unfold elemL; rw [if_neg (by omega)]
        rw [HEM.out] at HE
        have HD0 := Lib.hid (fun w => deep_any r w hrl)
        unfold SaidN at HD0
        rw [depN_right hun.1, hd0] at HD0
        have HRR := Lib.hid (fun w => right_any r w hrl)
        unfold Said at HRR
        rw [hun.1] at HRR
        have HRE := Lib.hid (re_zero hun)
        clear hun hd0 HUN HEM hlt hk
        have hd3' : (k : Int) ≤ 3 := by omega
        go_wp2_with fail
        refine (HE.out _).mono ?_
        rintro e w3 ⟨he, h3⟩
        obtain rfl : e = .returned (.string ⟨#[]⟩) := he
        have C3 := Lib.hid (HBEL.out.trans (h3.mono HBEL.out.size))
        clear h3 HBEL
        go_wp2_with fail
        refine (HD0.out _).mono ?_
        rintro e w4 ⟨he, h4⟩
        obtain rfl : e = .returned (.int .i64 0) := he
        have C4 := Lib.hid (C3.out.trans (h4.mono C3.out.size))
        clear h4 C3
        go_wp2_with fail
        refine (HRR.out _).mono ?_
        rintro e w5 ⟨rfl, h5⟩
        have C5 := Lib.hid (C4.out.trans (h5.mono C4.out.size))
        clear h5 C4
        go_wp2
        go_loopw [4, 6] (fun v4 v6 wr => ∃ (j : Nat) (r : List UInt8), j ≤ k ∧ v4 = .string (S r) ∧ v6 = .int .i64 j ∧ Re l j r ∧ Below w.heap.size w wr) (fun _ v6 _ => k - (intOf v6).toNat)
        case atStart => exact ⟨0, r, Nat.zero_le _, rfl, rfl, HRE.out, C5.out⟩
        case round =>
          obtain ⟨j, r', hj, rfl, rfl, hre, hbel⟩ := hrel
          have HRE' := Lib.hid hre
          have HBEL := Lib.hid hbel
          have hrl' : r'.length ≤ 1099511627776 := by have := (right_len hre.1).1; omega
          by_cases hlt : j < k
          · have HNX := Lib.hid (re_next hre (by rw [← HNN.out]; exact hlt) (by rw [← HNN.out]; omega))
            have HO := Lib.hid (fun w => of_yes r' w hrl' hre.1 (by have := hre.2.1; omega))
            clear hre hbel
            go_wp2_with fail
            refine (HO.out _).mono ?_
            rintro e w6 ⟨rfl, h6⟩
            have C6 := Lib.hid (HBEL.out.trans (h6.mono HBEL.out.size))
            clear h6
            go_wp2
            go_roundw
            case rel => exact ⟨j + 1, ofL r', by omega, rfl, by go_num, HNX.out, C6.out⟩
            case measure => simp [intOf]; omega
          · obtain rfl : j = k := by omega
            have hend : Re l (deepN l) r' := by have := hre; rw [HNN.out] at this; exact this
            obtain rfl := re_end hend
            clear hre hbel hend
            go_wp2_with fail
            refine (HA.out _).mono ?_
            rintro e w6 ⟨rfl, h6⟩
            have C6 := Lib.hid (HBEL.out.trans (h6.mono HBEL.out.size))
            clear h6
            go_wp2
            go_ret
            exact ⟨rfl, C6.out⟩
end Go.Proofs.Ythefgkllplodfaa
