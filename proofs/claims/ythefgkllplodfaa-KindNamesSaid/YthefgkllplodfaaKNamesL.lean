/-
  KindNames's contract: it answers true at any text, and writes nothing that was there.
  Conditions: none.
-/
import Derived.Test.YthefgkllplodfaaKAwake
namespace Go.Proofs.Ythefgkllplodfaa
open Go.RowKit
theorem dot_A (l : List UInt8) : dotAt ([65, 46] ++ l) = 1 := by
  unfold dotAt
  rw [List.cons_append, List.cons_append, List.findIdx_cons, List.findIdx_cons]
  rfl
theorem parts_A (l : List UInt8) : partsB ([65, 46] ++ l) = memberB l := by
  unfold partsB
  rw [dot_A]
  have h : 1 < ([65, 46] ++ l).length := by simp
  rw [decide_eq_true h, Bool.true_and, show List.take 1 ([65, 46] ++ l) = [65] from rfl, show List.drop (1 + 1) ([65, 46] ++ l) = l from rfl, show classB [65] = true by decide, Bool.true_and]
theorem name_xor (l : List UInt8) : nameB l = (classB l != memberB l) := by
  unfold classB memberB
  cases h : nameB l with
  | false => rfl
  | true =>
    have hp := (nameB_pos h).1
    have h0 := nameB_ok h 0 (by omega)
    unfold okAt letterB at h0
    simp only [ne_eq, not_true_eq_false, decide_false, Bool.false_and, Bool.or_false, Bool.or_eq_true, Bool.and_eq_true, decide_eq_true_eq] at h0
    rw [Bool.true_and, Bool.true_and]
    by_cases h1 : (l.getD 0 0).toNat ≤ 90
    · rw [decide_eq_true h1, decide_eq_false (by omega)]; rfl
    · rw [decide_eq_false h1, decide_eq_true (by omega)]; rfl
theorem member_name {l : List UInt8} (h : memberB l = true) : nameB l = true ∧ classB l = false := by
  have hx := name_xor l
  have hn : nameB l = true := by unfold memberB at h; simp at h; exact h.1
  rw [hn, h] at hx
  refine ⟨hn, ?_⟩
  cases hc : classB l with
  | false => rfl
  | true => rw [hc] at hx; cases hx
set_option maxHeartbeats 400000 in
set_option maxRecDepth 100000 in
theorem knames_any (l : List UInt8) (w : World) (hs : l.length ≤ 9223372036854775807) :
    Calls Try.prog 7 #[.string (S l)] w fun e w' => e = .returned (.bool true) ∧ Below w.heap.size w w' := by
  have hsz : ((S l).size : Int) = (l.length : Int) := by rw [S_size]
  have HA := Lib.hid awake_any
  by_cases hbig : 300 < l.length
  · have hz : (300 : Int) < (l.length : Int) := by omega
    go_enter Try.func7, Try.ntmps7
    go_wp2_with (go_at_call 9; refine (HA.out _).mono ?_; rintro e w1 ⟨rfl, hb⟩)
    go_ret
    exact ⟨rfl, hb⟩
  have hz : (l.length : Int) ≤ 300 := by omega
  have hlim : l.length ≤ 1099511627776 := by omega
  have hcat : (⟨#[65, 46]⟩ ++ S l : ByteArray) = S ([65, 46] ++ l) := S_append [65, 46] l
  have hlim2 : ([65, 46] ++ l).length ≤ 1099511627776 := by simp; omega
  have hsum : 2 + (S l).size ≤ 9223372036854775807 := by rw [S_size]; omega
  have hd1 : ([65, 46] ++ l).drop (dotAt ([65, 46] ++ l) + 1) = l := by rw [dot_A]; rfl
  have hx := name_xor l
  have HN := Lib.hid (fun w => name_any l w hlim)
  have HC := Lib.hid (fun w => class_any l w hlim)
  have HR := Lib.hid (fun w => right_any l w hlim)
  have HP := Lib.hid (plain_any l)
  unfold Said at HN HC HR
  cases hm : memberB l with
  | true =>
    have HK := Lib.hid (fun w => parts_yes ([65, 46] ++ l) w hlim2 (by rw [parts_A]; exact hm))
    rw [hd1] at HK
    have hn := member_name hm
    rw [hn.1] at HN
    rw [name_right hn.1, hn.2, Bool.or_false] at HR
    rw [hn.2] at HC
    clear hd1 hlim2 hx hm hn
    generalize [65, 46] ++ l = AL at *
    generalize plainB l = pb at *
    go_enter Try.func7, Try.ntmps7
    go_wp2_with fail
    refine (HK.out _).mono ?_
    rintro e w1 ⟨rfl, h1⟩
    have c1 := h1
    go_wp2_with fail
    refine (HC.out _).mono ?_
    rintro e w2 ⟨rfl, h2⟩
    have c2 := c1.trans (h2.mono c1.size)
    go_wp2_with fail
    refine (HA.out _).mono ?_
    rintro e w3 ⟨rfl, h3⟩
    have c3 := c2.trans (h3.mono c2.size)
    go_wp2_with fail
    refine (HN.out _).mono ?_
    rintro e w4 ⟨rfl, h4⟩
    have c4 := c3.trans (h4.mono c3.size)
    go_wp2_with fail
    refine (HR.out _).mono ?_
    rintro e w5 ⟨rfl, h5⟩
    have c5 := c4.trans (h5.mono c4.size)
    go_wp2_with fail
    refine (HP.out _).mono ?_
    rintro e w' ⟨rfl, rfl⟩
    go_wp2
    go_ret
    exact ⟨rfl, c5⟩
  | false =>
    have HK := Lib.hid (fun w => parts_no ([65, 46] ++ l) w hlim2 (by rw [parts_A]; exact hm))
    rw [hm] at hx
    cases hc : classB l with
    | true =>
      have hn := classB_name hc
      have hp : plainB l = false := by
        cases hp : plainB l with
        | false => rfl
        | true => rw [plainB_class hp] at hc; cases hc
      rw [hn] at HN
      rw [name_right hn, hc, hp] at HR
      rw [hc] at HC
      rw [hp] at HP
      clear hd1 hlim2 hx hm hn hp hc
      generalize [65, 46] ++ l = AL at *
      go_enter Try.func7, Try.ntmps7
      go_wp2_with fail
      refine (HK.out _).mono ?_
      rintro e w1 ⟨rfl, h1⟩
      have c1 := h1
      go_wp2_with fail
      refine (HC.out _).mono ?_
      rintro e w2 ⟨rfl, h2⟩
      have c2 := c1.trans (h2.mono c1.size)
      go_wp2_with fail
      refine (HA.out _).mono ?_
      rintro e w3 ⟨rfl, h3⟩
      have c3 := c2.trans (h3.mono c2.size)
      go_wp2_with fail
      refine (HN.out _).mono ?_
      rintro e w4 ⟨rfl, h4⟩
      have c4 := c3.trans (h4.mono c3.size)
      go_wp2_with fail
      refine (HR.out _).mono ?_
      rintro e w5 ⟨rfl, h5⟩
      have c5 := c4.trans (h5.mono c4.size)
      go_wp2_with fail
      refine (HP.out _).mono ?_
      rintro e w' ⟨rfl, rfl⟩
      go_wp2
      go_ret
      exact ⟨rfl, c5⟩
    | false =>
      rw [hc] at hx HC
      rw [hx] at HN
      clear hd1 hlim2 hx hm hc
      generalize [65, 46] ++ l = AL at *
      go_enter Try.func7, Try.ntmps7
      go_wp2_with fail
      refine (HK.out _).mono ?_
      rintro e w1 ⟨rfl, h1⟩
      have c1 := h1
      go_wp2_with fail
      refine (HC.out _).mono ?_
      rintro e w2 ⟨rfl, h2⟩
      have c2 := c1.trans (h2.mono c1.size)
      go_wp2_with fail
      refine (HA.out _).mono ?_
      rintro e w3 ⟨rfl, h3⟩
      have c3 := c2.trans (h3.mono c2.size)
      go_wp2_with fail
      refine (HN.out _).mono ?_
      rintro e w4 ⟨rfl, h4⟩
      have c4 := c3.trans (h4.mono c3.size)
      go_wp2
      go_ret
      exact ⟨rfl, c4⟩
end Go.Proofs.Ythefgkllplodfaa
