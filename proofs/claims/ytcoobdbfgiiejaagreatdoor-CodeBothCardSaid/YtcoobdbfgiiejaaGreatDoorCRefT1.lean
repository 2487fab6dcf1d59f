/-
  The document's Num and Get of layer 1, each by what the bytes begin with; instructions' bytes are no other instructions' bytes.
  Conditions: texts have at most 2^40 bytes.
-/
import Derived.Test.YtcoobdbfgiiejaaGreatDoorRefGet
import Derived.Test.YtcoobdbfgiiejaaGreatDoorCC
namespace Go.Proofs.YtcoobdbfgiiejaaGreatDoor
open Go.RowKit
theorem num_canon_aux : ∀ (t : List UInt8) (k acc V K : Nat), numFrom k acc t = (0, V, K) → ∃ x, V = acc + x * 128 ^ k ∧ k ≤ K ∧ t = Lib.uvarint x ++ t.drop (K - k) ∧ (0 < k → x ≠ 0)
  | [], k, acc, V, K, h => by simp [numFrom] at h
  | c :: t, k, acc, V, K, h => by
    have hc256 : c.toNat < 256 := UInt8.toNat_lt _
    by_cases h1 : (0 < k ∧ c.toNat = 0) ∨ (k = 9 ∧ 1 < c.toNat)
    · rw [numFrom_bad h1] at h; cases h
    · by_cases h2 : c.toNat < 128
      · rw [numFrom_done h1 h2] at h
        cases h
        refine ⟨c.toNat, by rw [Nat.mod_eq_of_lt h2], by omega, ?_, fun hk e => h1 (.inl ⟨hk, e⟩)⟩
        rw [Lib.uvarint_small h2, show k + 1 - k = 1 from by omega]
        simp
      · rw [numFrom_more h1 h2] at h
        obtain ⟨x, e1, e2, e3, e4⟩ := num_canon_aux t (k + 1) _ V K h
        have hx0 := e4 (by omega)
        refine ⟨c.toNat % 128 + 128 * x, ?_, by omega, ?_, fun _ => by omega⟩
        · rw [e1, Nat.pow_succ, Nat.add_mul, Nat.add_assoc]
          congr 2
          rw [Nat.mul_comm 128 x, Nat.mul_assoc, Nat.mul_comm (128 ^ k) 128]
        · rw [Lib.uvarint_big (by omega), show (c.toNat % 128 + 128 * x) % 128 = c.toNat % 128 from by omega, show (c.toNat % 128 + 128 * x) / 128 = x from by omega, show c.toNat % 128 + 128 = c.toNat from by omega, show K - k = (K - (k + 1)) + 1 from by omega]
          rw [List.drop_succ_cons, List.cons_append, ← e3]
          congr 1
          simp
theorem num_canon {t : List UInt8} {V K : Nat} (h : numFrom 0 0 t = (0, V, K)) : t = Lib.uvarint V ++ t.drop K := by
  obtain ⟨x, e1, _, e3, _⟩ := num_canon_aux t 0 0 V K h
  rw [Nat.pow_zero, Nat.mul_one, Nat.zero_add] at e1
  rw [e1]
  exact e3
theorem uvar_inj {a b : Nat} {x y : List UInt8} (ha : a < 18446744073709551616) (hb : b < 18446744073709551616) (h : Lib.uvarint a ++ x = Lib.uvarint b ++ y) : a = b ∧ x = y := by
  have h1 := num_var a ha x
  rw [h, num_var b hb y] at h1
  have e : b = a := congrArg (fun z => z.2.1) h1
  subst e
  exact ⟨rfl, List.append_cancel_left h⟩
theorem zz_inj {a b : Int} (h : Lib.zigzag a = Lib.zigzag b) : a = b := by
  rw [← zag_zigzag a, h, zag_zigzag]
theorem bytes_inj {x y : Ins} {a b : List UInt8} (hx : x.ok) (hy : y.ok) (hxe : x.e = 0) (hye : y.e = 0) (h : x.bytes ++ a = y.bytes ++ b) : x = y ∧ a = b := by
  unfold Ins.bytes at h
  rw [List.append_assoc, List.append_assoc] at h
  obtain ⟨e1, h⟩ := uvar_inj (by have := idx_le x.op; omega) (by have := idx_le y.op; omega) h
  obtain ⟨_, x1, x2, x3⟩ := ins_fine hxe
  obtain ⟨_, y1, y2, y3⟩ := ins_fine hye
  have hop : x.op = y.op := by rw [← x1, e1, y1]
  rw [e1] at h x2 x3
  obtain ⟨xo, xn, xs⟩ := x
  obtain ⟨yo, yn, ys⟩ := y
  simp only at hop e1 h x2 x3 y2 y3
  subst hop
  unfold argBytes at h
  by_cases h1 : hasAt (idx xo) = 1
  · rw [if_pos h1, if_pos h1] at h
    obtain ⟨e2, h⟩ := uvar_inj (Lib.zigzag_lt hx.1.1 hx.1.2) (Lib.zigzag_lt hy.1.1 hy.1.2) h
    have s1 : xs = [] := ins_short hxe (by show hasAt (idx xo) < 2; omega)
    have s2 : ys = [] := ins_short hye (by show hasAt (idx xo) < 2; omega)
    have e3 : xn = yn := zz_inj e2
    rw [s1, s2, e3]
    exact ⟨rfl, h⟩
  · rw [if_neg h1, if_neg h1] at h
    rw [x2 h1, y2 h1]
    by_cases h2 : 2 ≤ hasAt (idx xo)
    · rw [if_pos h2, if_pos h2] at h
      unfold textBytes at h
      rw [List.append_assoc, List.append_assoc] at h
      obtain ⟨e2, h⟩ := uvar_inj (by have := hx.2; simp only at this; omega) (by have := hy.2; simp only at this; omega) h
      have hs : xs = ys := by
        have := congrArg (List.take xs.length) h
        rw [List.take_left, e2, List.take_left] at this
        exact this
      subst hs
      exact ⟨rfl, List.append_cancel_left h⟩
    · rw [if_neg h2, if_neg h2] at h
      have s1 : xs = [] := ins_short hxe (by show hasAt (idx xo) < 2; omega)
      have s2 : ys = [] := ins_short hye (by show hasAt (idx xo) < 2; omega)
      rw [s1, s2]
      exact ⟨rfl, h⟩
theorem many_inj : ∀ (m y : List Ins) (a b : List UInt8), m.length ≤ y.length → (∀ x ∈ m, x.ok ∧ x.e = 0) → (∀ x ∈ y, x.ok ∧ x.e = 0) → m.flatMap Ins.bytes ++ a = y.flatMap Ins.bytes ++ b → m = y.take m.length ∧ a = (y.drop m.length).flatMap Ins.bytes ++ b
  | [], y, a, b, _, _, _, h => ⟨by simp, by simpa using h⟩
  | x :: m, [], a, b, hl, _, _, _ => by simp at hl
  | x :: m, z :: y, a, b, hl, hm, hy, h => by
    rw [List.flatMap_cons, List.flatMap_cons, List.append_assoc, List.append_assoc] at h
    have hx := hm x (by simp)
    have hz := hy z (by simp)
    obtain ⟨e1, e2⟩ := bytes_inj hx.1 hz.1 hx.2 hz.2 h
    obtain ⟨e3, e4⟩ := many_inj m y a b (by simpa using hl) (fun q hq => hm q (by simp [hq])) (fun q hq => hy q (by simp [hq])) e2
    refine ⟨?_, ?_⟩
    · rw [List.length_cons, List.take_succ_cons, ← e1, ← e3]
    · rw [List.length_cons, List.drop_succ_cons]; exact e4
def RNumG (t : List UInt8) (w : World) (e : Ending) (w' : World) : Prop :=
  ∃ (V E : Nat) (rest : List UInt8), e = .returned (.tuple #[.int .u64 (V : Nat), .string (S rest), .int .i64 (E : Nat)]) ∧ (∃ q, w' = w.drewN q) ∧ V < 18446744073709551616 ∧ rest.length ≤ t.length ∧ (E = 0 → t = Lib.uvarint V ++ rest) ∧ (E ≠ 0 → ∀ (q : Nat) (r : List UInt8), q < 18446744073709551616 → t ≠ Lib.uvarint q ++ r)
theorem refnum_g (t : List UInt8) (w : World) (ht : t.length ≤ 1099511627776) : Calls Tryz.prog 39 #[.string (S t)] w (RNumG t w) := by
  refine (refnum_any t w (by omega)).mono ?_
  rintro e w' ⟨he, hq⟩
  rcases hR : numFrom 0 0 t with ⟨E, V, K⟩
  rw [hR] at he
  refine ⟨V, E, if E = 0 then t.drop K else t, he, hq, num_lt hR, ?_, fun hE => ?_, fun hE q r hq' hd => ?_⟩
  · split
    · rw [List.length_drop]; omega
    · exact Nat.le_refl _
  · subst hE
    rw [if_pos rfl]
    exact num_canon hR
  · rw [hd, num_var q hq' r] at hR
    cases hR
    exact hE rfl
def RGet2 (t : List UInt8) (w : World) (e : Ending) (w' : World) : Prop :=
  ∃ (n E : Nat) (rest : List UInt8), e = .returned (.tuple #[.agg #[.int .i64 2, .int .i64 200, .int .u64 (n : Nat), .int .i64 0, .bool false, .string (S [])], .string (S rest), .int .i64 (E : Nat)]) ∧ Below w.heap.size w w' ∧ rest.length ≤ t.length ∧ (E = 0 → n ≤ 200 ∧ t = Lib.uvarint n ++ rest) ∧ (E ≠ 0 → ∀ (q : Nat) (r : List UInt8), q ≤ 200 → q ≤ r.length → t ≠ Lib.uvarint q ++ r)
theorem refget2_g (t : List UInt8) (w : World) (ht : t.length ≤ 1099511627776) : Calls Tryz.prog 38 #[.int .i64 2, .int .i64 200, .string (S t)] w (RGet2 t w) := by
  have hdl : ∀ K, (t.drop K).length ≤ t.length := fun K => by rw [List.length_drop]; omega
  rcases hR : numFrom 0 0 t with ⟨E, V, K⟩
  by_cases hE : E = 0
  · subst hE
    have hc := num_canon hR
    have hV := num_lt hR
    by_cases hv : V ≤ 200
    · by_cases hl : V ≤ (t.drop K).length
      · refine (refget_2ok 200 t V K w (by omega) hR (by decide) hv hl).mono ?_
        rintro e w' ⟨he, hb⟩
        exact ⟨V, 0, t.drop K, he, hb, hdl K, fun _ => ⟨hv, hc⟩, fun h => absurd rfl h⟩
      · refine (refget_2more 200 t V K w (by omega) hR (by decide) hv (by omega)).mono ?_
        rintro e w' ⟨he, hb⟩
        refine ⟨0, 12, t.drop 0, he, hb, hdl 0, (fun h => by cases h), fun _ q r hq hr hd => ?_⟩
        rw [hd] at hc
        obtain ⟨e1, e2⟩ := uvar_inj (by omega) hV hc
        rw [hd, ← e2, ← e1] at hl
        exact hl hr
    · refine (refget_2over 200 t V K w (by omega) hR (by decide) (by omega)).mono ?_
      rintro e w' ⟨he, hb⟩
      refine ⟨0, 12, t.drop 0, he, hb, hdl 0, (fun h => by cases h), fun _ q r hq hr hd => ?_⟩
      rw [hd] at hc
      obtain ⟨e1, e2⟩ := uvar_inj (by omega) hV hc
      omega
  · refine (refget_num 2 200 t E V K w (by decide) (by omega) hR hE).mono ?_
    rintro e w' ⟨he, hb⟩
    refine ⟨0, E, t.drop 0, he, hb, hdl 0, fun h => absurd h hE, fun _ q r hq hr hd => ?_⟩
    rw [hd, num_var q (by omega) r] at hR
    cases hR
    exact hE rfl
def RGet1 (t : List UInt8) (w : World) (e : Ending) (w' : World) : Prop :=
  ∃ (n : Int) (E : Nat) (rest : List UInt8), e = .returned (.tuple #[.agg #[.int .i64 1, .int .i64 0, .int .u64 (0 : Nat), .int .i64 n, .bool false, .string (S [])], .string (S rest), .int .i64 (E : Nat)]) ∧ Below w.heap.size w w' ∧ rest.length ≤ t.length ∧ (-9223372036854775808 ≤ n ∧ n ≤ 9223372036854775807) ∧ (E = 0 → t = Lib.uvarint (Lib.zigzag n) ++ rest) ∧ (E ≠ 0 → ∀ (q : Int) (r : List UInt8), (-9223372036854775808 ≤ q ∧ q ≤ 9223372036854775807) → t ≠ Lib.uvarint (Lib.zigzag q) ++ r)
theorem refget1_g (t : List UInt8) (w : World) (ht : t.length ≤ 1099511627776) : Calls Tryz.prog 38 #[.int .i64 1, .int .i64 0, .string (S t)] w (RGet1 t w) := by
  have hdl : ∀ K, (t.drop K).length ≤ t.length := fun K => by rw [List.length_drop]; omega
  rcases hR : numFrom 0 0 t with ⟨E, V, K⟩
  by_cases hE : E = 0
  · subst hE
    have hc := num_canon hR
    have hV := num_lt hR
    have fin : ∀ e w', GetRef 1 0 t 0 0 (zag V) false [] K w e w' → RGet1 t w e w' := by
      rintro e w' ⟨he, hb⟩
      exact ⟨zag V, 0, t.drop K, he, hb, hdl K, zag_bounds V hV, fun _ => by rw [zigzag_zag]; exact hc, fun h => absurd rfl h⟩
    rcases (show V % 2 = 0 ∨ V % 2 = 1 by omega) with h2 | h2
    · exact (refget_1e 0 t V K w (by omega) hR h2).mono fin
    · exact (refget_1o 0 t V K w (by omega) hR h2).mono fin
  · refine (refget_num 1 0 t E V K w (by decide) (by omega) hR hE).mono ?_
    rintro e w' ⟨he, hb⟩
    refine ⟨0, E, t.drop 0, he, hb, hdl 0, by decide, fun h => absurd h hE, fun _ q r hq hd => ?_⟩
    rw [hd, num_var _ (Lib.zigzag_lt hq.1 hq.2) r] at hR
    cases hR
    exact hE rfl
def RGet4 (t : List UInt8) (w : World) (e : Ending) (w' : World) : Prop :=
  ∃ (s : List UInt8) (E : Nat) (rest : List UInt8), e = .returned (.tuple #[.agg #[.int .i64 4, .int .i64 0, .int .u64 (0 : Nat), .int .i64 0, .bool false, .string (S s)], .string (S rest), .int .i64 (E : Nat)]) ∧ Below w.heap.size w w' ∧ rest.length ≤ t.length ∧ s.length ≤ 4096 ∧ (E = 0 → t = textBytes s ++ rest) ∧ (E ≠ 0 → ∀ (q : List UInt8) (r : List UInt8), q.length ≤ 4096 → Lib.validD q = true → t ≠ textBytes q ++ r)
theorem refget4_g (t : List UInt8) (w : World) (ht : t.length ≤ 1099511627776) : Calls Tryz.prog 38 #[.int .i64 4, .int .i64 0, .string (S t)] w (RGet4 t w) := by
  have hdl : ∀ K, (t.drop K).length ≤ t.length := fun K => by rw [List.length_drop]; omega
  rcases hR : numFrom 0 0 t with ⟨E, V, K⟩
  by_cases hE : E = 0
  · subst hE
    have hc := num_canon hR
    have hV := num_lt hR
    have key : ∀ q r : List UInt8, q.length ≤ 4096 → t = textBytes q ++ r → V = q.length ∧ t.drop K = q ++ r := by
      intro q r hq hd
      unfold textBytes at hd
      rw [List.append_assoc] at hd
      rw [hd] at hc
      obtain ⟨e1, e2⟩ := uvar_inj (by omega) hV hc
      exact ⟨e1.symm, by rw [hd]; exact e2.symm⟩
    have bad : ∀ (Ez : Nat), Ez ≠ 0 → (∀ q r : List UInt8, q.length ≤ 4096 → Lib.validD q = true → V = q.length → t.drop K = q ++ r → False) → ∀ e w', GetRef 4 0 t Ez 0 0 false [] 0 w e w' → RGet4 t w e w' := by
      rintro Ez hz hno e w' ⟨he, hb⟩
      refine ⟨[], Ez, t.drop 0, he, hb, hdl 0, by simp, fun h => absurd h hz, fun _ q r hq hv hd => ?_⟩
      obtain ⟨e1, e2⟩ := key q r hq hd
      exact hno q r hq hv e1 e2
    by_cases hv : V ≤ 4096
    · by_cases hl : V ≤ (t.drop K).length
      · cases hU : Lib.validD ((t.drop K).take V) with
        | true =>
          refine (refget_tok 4 0 t V K w (by omega) hR (by decide) (by decide) (by decide) (by decide) hv hl hU).mono ?_
          rintro e w' ⟨he, hb⟩
          refine ⟨(t.drop K).take V, 0, t.drop (K + V), he, hb, hdl _, by rw [List.length_take]; omega, fun _ => ?_, fun h => absurd rfl h⟩
          unfold textBytes
          rw [List.length_take, Nat.min_eq_left hl, List.append_assoc, ← List.drop_drop, List.take_append_drop]
          exact hc
        | false =>
          refine (refget_tform 4 0 t V K w (by omega) hR (by decide) (by decide) (by decide) (by decide) hv hl hU).mono (bad 11 (by decide) ?_)
          intro q r _ hq e1 e2
          rw [e2, e1, List.take_left, hq] at hU
          cases hU
      · refine (refget_tshort 4 0 t V K w (by omega) hR (by decide) (by decide) (by decide) (by decide) hv (by omega)).mono (bad 10 (by decide) ?_)
        intro q r _ _ e1 e2
        rw [e2, List.length_append] at hl
        omega
    · refine (refget_tbig 4 0 t V K w (by omega) hR (by decide) (by decide) (by decide) (by decide) (by omega)).mono (bad 12 (by decide) ?_)
      intro q r hq _ e1 _
      omega
  · refine (refget_num 4 0 t E V K w (by decide) (by omega) hR hE).mono ?_
    rintro e w' ⟨he, hb⟩
    refine ⟨[], E, t.drop 0, he, hb, hdl 0, by simp, fun h => absurd h hE, fun _ q r hq hv hd => ?_⟩
    unfold textBytes at hd
    rw [List.append_assoc] at hd
    rw [hd, num_var _ (by omega) _] at hR
    cases hR
    exact hE rfl
end Go.Proofs.YtcoobdbfgiiejaaGreatDoor
