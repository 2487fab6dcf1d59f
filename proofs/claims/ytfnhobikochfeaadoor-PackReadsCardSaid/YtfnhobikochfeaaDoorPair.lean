/-
  A field that is read, by the program and by the document: both answer the same, at any bytes, any kind and any most.
  Conditions: the reader has no error, holds its bytes (at most 2^47); unicode/utf8's two tables hold what they hold at the start; the most is an int.
-/
import Derived.Test.YtfnhobikochfeaaDoorRefGet
namespace Go.Proofs.YtfnhobikochfeaaDoor
open Go.RowKit
set_option maxHeartbeats 4000000 in
set_option maxRecDepth 100000 in
theorem get_4t (b : Nat) (v : Value) (l : List UInt8) (i err i' err' : Nat) (X : List UInt8) (kind : Int) (most : Int) (w : World) (h : RdAt w b v l i err) (hT : Tabs w)
    (k0 : kind ≠ 0) (k1 : kind ≠ 1) (k2 : kind ≠ 2) (k3 : kind ≠ 3)
    (hc : ∀ W, RdAt W b v l i err → Tabs W → Calls Tryd.prog 36 #[.pointer (some ⟨b, 0, none⟩)] W (Got b v l i' err' (.string (S X)) W)) :
    Calls Tryd.prog 28 #[.pointer (some ⟨b, 0, none⟩), .int .i64 kind, .int .i64 most] w (Got b v l i' err' (fieldVal kind most 0 0 false X) w) := by
  have hlt := lt_of_block h.blk
  have HC := Lib.hid hc
  have HH := Lib.hid h
  have HT := Lib.hid hT
  have b0 : (kind == 0) = false := beq_eq_false_iff_ne.2 k0
  have b1 : (kind == 1) = false := beq_eq_false_iff_ne.2 k1
  have b2 : (kind == 2) = false := beq_eq_false_iff_ne.2 k2
  have b3 : (kind == 3) = false := beq_eq_false_iff_ne.2 k3
  clear k0 k1 k2 k3
  clear hc h hT
  go_enter Tryd.func28, Tryd.ntmps28
  go_wp2_with fail
  refine (HC.out _ ((HH.out.alloc _).alloc _) (HT.out.below (rg_two w _ _))).mono ?_
  rintro e w1 ⟨rfl, hon, hrd⟩
  obtain ⟨q0, q1⟩ := two_blocks hlt hon
  obtain ⟨a0, a1, a2, a3, a4, a5⟩ := cells6 q0
  obtain ⟨d0, d1, d2, d3, d4, d5⟩ := cells6 q1
  have f0 := free6 q0
  have f1 := free6 q1
  clear q0 q1
  go_wp2
  refine bodyPost_ret (v := fieldVal kind most 0 0 false X) (by simp [results, Tryd.results28, go_sem, fieldVal, S, *]) rfl ⟨rfl, get_done HH.out hon hrd ?_⟩
  repeat (refine Only.setCell ?_ (by simp) _)
  exact Only.refl _ _

/-- What both answer. -/
structure Both (b : Nat) (v : Value) (l : List UInt8) (i : Nat) (kind most : Int) (E n : Nat) (I : Int) (y : Bool) (s : List UInt8) (k : Nat) : Prop where
  le : i + k ≤ l.length
  bad : E ≠ 0 → n = 0 ∧ I = 0 ∧ y = false ∧ s = [] ∧ k = 0
  prog : ∀ W, RdAt W b v l i 0 → Tabs W → b ≠ 0 → b ≠ 1 → Calls Tryd.prog 28 #[.pointer (some ⟨b, 0, none⟩), .int .i64 kind, .int .i64 most] W (Got b v l (i + k) E (fieldVal kind most n I y s) W)
  ref : ∀ W, Calls Tryd.prog 27 #[.int .i64 kind, .int .i64 most, .string (S (l.drop i))] W (GetRef kind most (l.drop i) E n I y s k W)
theorem drop_cons_at {l : List UInt8} {i : Nat} {c : UInt8} {t : List UInt8} (h : l.drop i = c :: t) : ∃ hi : i < l.length, l[i] = c := by
  have hi : i < l.length := by
    rcases Nat.lt_or_ge i l.length with h1 | h1
    · exact h1
    · rw [List.drop_of_length_le h1] at h; cases h
  refine ⟨hi, ?_⟩
  rw [List.drop_eq_getElem_cons hi] at h
  exact (List.cons.inj h).1
theorem both_any (b : Nat) (v : Value) (l : List UInt8) (i : Nat) (kind most : Int) (hl : l.length ≤ 140737488355328) (hi : i ≤ l.length) (hm : most ≤ 9223372036854775807) : ∃ E n I y s k, Both b v l i kind most E n I y s k := by
  by_cases k3 : kind = 3
  · subst k3
    rcases hd : l.drop i with _ | ⟨c, t⟩
    · obtain rfl : i = l.length := by
        have := List.length_drop (i := i) (l := l)
        rw [hd] at this
        simp at this
        omega
      exact ⟨10, 0, 0, false, [], 0, by omega, fun _ => ⟨rfl, rfl, rfl, rfl, rfl⟩, fun W h _ _ _ => get_3 b v l _ 0 _ 10 false most W h (fun W' h' => rflag_short b v l W' h'), fun W => by rw [hd]; exact refget_3nil most W⟩
    · obtain ⟨hil, hc⟩ := drop_cons_at hd
      by_cases h1 : 1 < c.toNat
      · exact ⟨11, 0, 0, false, [], 0, by omega, fun _ => ⟨rfl, rfl, rfl, rfl, rfl⟩, fun W h _ _ _ => get_3 b v l _ 0 _ 11 false most W h (fun W' h' => rflag_form b v l i W' h' hil (by rw [hc]; exact h1)), fun W => by rw [hd]; exact refget_3form most c t h1 W⟩
      · refine ⟨0, 0, 0, ((c.toNat : Int) == 1), [], 1, by omega, fun h => absurd rfl h, fun W h _ _ _ => get_3 b v l _ 0 _ 0 _ most W h (fun W' h' => rflag_ok b v l i _ W' h' hil ?_), fun W => by rw [hd]; exact refget_3ok most c t (by omega) W⟩
        rw [hc]
        have h2 : c.toNat = 0 ∨ c.toNat = 1 := by omega
        rcases h2 with h2 | h2
        · obtain rfl : c = 0 := UInt8.toNat_inj.1 h2
          rfl
        · obtain rfl : c = 1 := UInt8.toNat_inj.1 h2
          rfl
  obtain ⟨⟨E, V, K⟩, hR⟩ : ∃ R, numFrom 0 0 (l.drop i) = R := ⟨_, rfl⟩
  have htl : (l.drop i).length ≤ 140737488355328 := by rw [List.length_drop]; omega
  by_cases hE : E ≠ 0
  · refine ⟨E, 0, 0, false, [], 0, by omega, fun _ => ⟨rfl, rfl, rfl, rfl, rfl⟩, fun W h hT hb0 hb1 => ?_, fun W => refget_num kind most _ E V K W k3 htl hR hE⟩
    by_cases k0 : kind = 0
    · subst k0; exact get_0 b v l i 0 i E 0 most W h (fun W' h' => rnum_bad b v l i E V K W' h' hR hE)
    by_cases k1 : kind = 1
    · subst k1; exact get_1 b v l i 0 i E 0 most W h (fun W' h' => rint_bad b v l i E V K W' h' hR hE)
    by_cases k2 : kind = 2
    · subst k2; exact get_2 b v l i 0 i E 0 most W h (by decide) (fun W' h' => rcount_num b v l i E V K most W' h' hR hE)
    · exact get_4 b v l i 0 i E [] kind most W h k0 k1 k2 k3 (fun W' h' => rtext_num b v l i E V K W' h' hR hE)
  obtain rfl : E = 0 := by omega
  have hpos := numFrom_pos (l.drop i) 0 0
  rw [hR] at hpos
  have hK := (hpos rfl).2
  rw [List.length_drop] at hK
  simp only [] at hK
  have hdd : (l.drop i).drop K = l.drop (i + K) := by rw [List.drop_drop]
  have hdl : ((l.drop i).drop K).length = l.length - (i + K) := by rw [hdd, List.length_drop]
  by_cases k0 : kind = 0
  · subst k0
    exact ⟨0, V, 0, false, [], K, by omega, fun h => absurd rfl h, fun W h _ _ _ => get_0 b v l i 0 _ 0 V most W h (fun W' h' => rnum_ok b v l i V K W' h' hR), fun W => refget_0 most _ V K W htl hR⟩
  by_cases k1 : kind = 1
  · subst k1
    refine ⟨0, 0, zag V, false, [], K, by omega, fun h => absurd rfl h, fun W h _ _ _ => get_1 b v l i 0 _ 0 _ most W h (fun W' h' => rint_ok b v l i V K W' h' hR), fun W => ?_⟩
    by_cases h2 : V % 2 = 0
    · exact refget_1e most _ V K W htl hR h2
    · exact refget_1o most _ V K W htl hR (by omega)
  by_cases k2 : kind = 2
  · subst k2
    by_cases hneg : most < 0
    · exact ⟨12, 0, 0, false, [], 0, by omega, fun _ => ⟨rfl, rfl, rfl, rfl, rfl⟩, fun W h _ _ _ => get_2 b v l i 0 i 12 0 most W h (by decide) (fun W' h' => rcount_neg b v l i V K most W' h' hR hneg), fun W => refget_2neg most _ V K W htl hR hneg⟩
    obtain ⟨m, rfl⟩ : ∃ m : Nat, most = m := ⟨most.toNat, by omega⟩
    by_cases hv : m < V
    · exact ⟨12, 0, 0, false, [], 0, by omega, fun _ => ⟨rfl, rfl, rfl, rfl, rfl⟩, fun W h _ _ _ => get_2 b v l i 0 i 12 0 m W h (by decide) (fun W' h' => rcount_over b v l i V K m W' h' (by omega) hR hv), fun W => refget_2over m _ V K W htl hR (by omega) hv⟩
    by_cases hlv : l.length < i + K + V
    · exact ⟨12, 0, 0, false, [], 0, by omega, fun _ => ⟨rfl, rfl, rfl, rfl, rfl⟩, fun W h _ _ _ => get_2 b v l i 0 i 12 0 m W h (by decide) (fun W' h' => rcount_more b v l i V K m W' h' (by omega) hR (by omega) hlv), fun W => refget_2more m _ V K W htl hR (by omega) (by omega) (by omega)⟩
    · exact ⟨0, V, 0, false, [], K, by omega, fun h => absurd rfl h, fun W h _ _ _ => get_2 b v l i 0 _ 0 V m W h (by omega) (fun W' h' => rcount_ok b v l i V K m W' h' (by omega) hR (by omega) (by omega)), fun W => refget_2ok m _ V K W htl hR (by omega) (by omega) (by omega)⟩
  by_cases hv : 4096 < V
  · exact ⟨12, 0, 0, false, [], 0, by omega, fun _ => ⟨rfl, rfl, rfl, rfl, rfl⟩, fun W h _ _ _ => get_4 b v l i 0 i 12 [] kind most W h k0 k1 k2 k3 (fun W' h' => rtext_big b v l i V K W' h' hR hv), fun W => refget_tbig kind most _ V K W htl hR k0 k1 k2 k3 hv⟩
  by_cases hlv : l.length < i + K + V
  · exact ⟨10, 0, 0, false, [], 0, by omega, fun _ => ⟨rfl, rfl, rfl, rfl, rfl⟩, fun W h _ _ _ => get_4 b v l i 0 i 10 [] kind most W h k0 k1 k2 k3 (fun W' h' => rtext_short b v l i V K W' h' hR (by omega) hlv), fun W => refget_tshort kind most _ V K W htl hR k0 k1 k2 k3 (by omega) (by omega)⟩
  cases hU : Lib.validD ((l.drop (i + K)).take V)
  · exact ⟨11, 0, 0, false, [], 0, by omega, fun _ => ⟨rfl, rfl, rfl, rfl, rfl⟩, fun W h hT hb0 hb1 => get_4t b v l i 0 i 11 [] kind most W h hT k0 k1 k2 k3 (fun W' h' hT' => rtext_form b v l i V K W' h' hT' hb0 hb1 hR (by omega) (by omega) hU), fun W => refget_tform kind most _ V K W htl hR k0 k1 k2 k3 (by omega) (by omega) (by rw [hdd]; exact hU)⟩
  · refine ⟨0, 0, 0, false, (l.drop (i + K)).take V, K + V, by omega, fun h => absurd rfl h, fun W h hT hb0 hb1 => ?_, fun W => ?_⟩
    · have := get_4t b v l i 0 (i + K + V) 0 ((l.drop (i + K)).take V) kind most W h hT k0 k1 k2 k3 (fun W' h' hT' => rtext_ok b v l i V K W' h' hT' hb0 hb1 hR (by omega) (by omega) hU)
      rw [Nat.add_assoc] at this
      exact this
    · have := refget_tok kind most _ V K W htl hR k0 k1 k2 k3 (by omega) (by omega) (by rw [hdd]; exact hU)
      rw [hdd] at this
      exact this
end Go.Proofs.YtfnhobikochfeaaDoor
