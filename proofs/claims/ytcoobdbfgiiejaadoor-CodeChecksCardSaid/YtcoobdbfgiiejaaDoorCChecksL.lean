/-
  The walk of the law CodeChecks: which instructions may be, and what operators have, is as the document says.
  Conditions: the tables hold what they hold at the start.
-/
import Derived.Test.YtcoobdbfgiiejaaDoorCAwake
import Derived.Test.YtcoobdbfgiiejaaDoorCRefCheck
import Derived.Test.YtcoobdbfgiiejaaDoorCFew
import Derived.Test.YtcoobdbfgiiejaaDoorInsOpen
import Derived.Deep.RegionHeld
namespace Go.Proofs.YtcoobdbfgiiejaaDoor
open Go.RowKit
theorem has_cases (op : List UInt8) : (idx op < 42 ∧ ((hasAt (idx op) = 1 ∧ refT op = 1) ∨ (hasAt (idx op) = 0 ∧ refT op = 0) ∨ (2 ≤ hasAt (idx op) ∧ refT op = 2))) ∨ (idx op = 42 ∧ hasAt (idx op) = 0 ∧ refT op = -1) := by
  have hle := idx_le op
  unfold refT
  by_cases hN : idx op < 42
  · refine .inl ⟨hN, ?_⟩
    rw [if_pos hN]
    by_cases h1 : hasAt (idx op) = 1
    · exact .inl ⟨h1, if_pos h1⟩
    · rw [if_neg h1]
      by_cases h2 : 2 ≤ hasAt (idx op)
      · exact .inr (.inr ⟨h2, if_pos h2⟩)
      · exact .inr (.inl ⟨by omega, if_neg h2⟩)
  · have e : idx op = 42 := by omega
    rw [if_neg hN, e]
    exact .inr ⟨rfl, at_end.2, rfl⟩
/-- What both look-ups of an operator say, in one of four ways. -/
def Ways (a b o : Bool) (t : Int) : Prop := (a = true ∧ b = false ∧ o = true ∧ t = 1) ∨ (a = false ∧ b = false ∧ o = true ∧ t = 0) ∨ (a = false ∧ b = true ∧ o = true ∧ t = 2) ∨ (a = false ∧ b = false ∧ o = false ∧ t = -1)
theorem ways (op : List UInt8) : Ways (hasAt (idx op) == 1) (decide (2 ≤ hasAt (idx op))) (decide (idx op < 42)) (refT op) := by
  rcases has_cases op with ⟨h, ⟨h1, h2⟩ | ⟨h1, h2⟩ | ⟨h1, h2⟩⟩ | ⟨h, h1, h2⟩
  · exact .inl ⟨by rw [h1]; rfl, by rw [h1]; rfl, decide_eq_true h, h2⟩
  · exact .inr (.inl ⟨by rw [h1]; rfl, by rw [h1]; rfl, decide_eq_true h, h2⟩)
  · exact .inr (.inr (.inl ⟨by rw [beq_eq_false_iff_ne]; omega, decide_eq_true h1, decide_eq_true h, h2⟩))
  · exact .inr (.inr (.inr ⟨by rw [h1]; rfl, by rw [h1]; rfl, by rw [h]; rfl, h2⟩))
theorem one_src {w : World} {b : Nat} {t : TypeId} (x : Ins) (h : w.heap[b]? = some (.cells #[.string (S x.op), .int .i64 x.n, .string (S x.s)] t (0, 0))) : InsSrc w (.slice (some ⟨b, 0, none⟩) 1 1) [x] := by
  refine .inr ⟨b, 0, 1, rfl, fun k y hy => ?_⟩
  match k, hy with
  | 0, hy => simp at hy; subst hy; simp [World.cell?, h]
  | k + 1, hy => simp at hy
set_option maxHeartbeats 2000000 in
set_option maxRecDepth 100000 in
theorem checksLaw_any (x : Ins) (w : World) (hT : CT w) (hp : Pow10 w) (hh : x.held) :
    Calls Tryd.prog 3 #[x.v] w fun e w' => e = .returned (.bool true) ∧ Below w.heap.size w w' := by
  have HT := Lib.hid hT
  have HP := Lib.hid hp
  obtain ⟨op, n, s⟩ := x
  have HH := Lib.hid hh
  clear hT hp hh
  go_enter Tryd.func3, Tryd.ntmps3
  go_wp2_with fail
  have hb1 : Below w.heap.size w ((w.alloc (.cells #[.string (S op), .int .i64 n, .string (S s)] 23)).alloc (.cells #[.string (S op), .int .i64 n, .string (S s)] 23)) := ((Below.refl _ w).alloc (Nat.le_refl _) _).alloc (by simp) _
  have hB : ((w.alloc (.cells #[.string (S op), .int .i64 n, .string (S s)] 23)).alloc (.cells #[.string (S op), .int .i64 n, .string (S s)] 23)).heap[w.heap.size]? = some (.cells #[.string (S op), .int .i64 n, .string (S s)] 23 (0, 0)) := ((Only.refl (fun _ => False) _).alloc _).heap (heap_alloc_new w _) id
  have hP : ((w.alloc (.cells #[.string (S op), .int .i64 n, .string (S s)] 23)).alloc (.cells #[.string (S op), .int .i64 n, .string (S s)] 23)).heap[w.heap.size + 1]? = some (.cells #[.string (S op), .int .i64 n, .string (S s)] 23 (0, 0)) := (heap_alloc_new' (w.alloc _) _ _ (by simp)).trans rfl
  generalize (w.alloc (.cells #[.string (S op), .int .i64 n, .string (S s)] 23)).alloc (.cells #[.string (S op), .int .i64 n, .string (S s)] 23) = w1 at hb1 hB hP ⊢
  have hfew := few_any [⟨op, n, s⟩] _ w1 (one_src ⟨op, n, s⟩ hP) (by simp)
  refine hfew.mono ?_
  clear hfew
  rintro e w1' ⟨rfl, rfl⟩
  have c0 : w1.cell? ⟨w.heap.size, 0, none⟩ = some (.string (S op)) := by simp [World.cell?, hB]
  have HB := Lib.hid hB
  have HB1 := Lib.hid hb1
  have hF : fewB [⟨op, n, s⟩] = true → s.length ≤ 300 := by
    intro h
    simp [fewB, Ins.short] at h
    exact h.2
  have HF := Lib.hid hF
  clear hB hP hb1 hF
  generalize fewB [⟨op, n, s⟩] = fb at HF ⊢
  cases fb
  · go_wp2_with fail
    refine (awake_any w1 (HT.out.keep HB1.out) (HP.out.keep HB1.out)).mono ?_
    rintro e w2 ⟨rfl, hb2⟩
    have hbw : Below w.heap.size w w2 := HB1.out.trans (hb2.mono HB1.out.size)
    clear hb2
    go_wp2
    go_ret
    exact ⟨rfl, hbw⟩
  · have hs : s.length ≤ 1099511627776 := by have := HF.out rfl; omega
    go_wp2_with fail
    refine (takes_any op w1 (HT.out.keep HB1.out)).mono ?_
    rintro e w2 ⟨rfl, hb2⟩
    have hB2 := (Only.ofBelow (S := fun _ => False) hb2).heap HB.out id
    have hbw2 : Below w.heap.size w w2 := HB1.out.trans (hb2.mono HB1.out.size)
    have d0 : w2.cell? ⟨w.heap.size, 0, none⟩ = some (.string (S op)) := by simp [World.cell?, hB2]
    have HB2 := Lib.hid hB2
    clear hb2 hB2 c0
    have hw := ways op
    generalize (hasAt (idx op) == 1) = a at hw ⊢
    generalize decide (2 ≤ hasAt (idx op)) = b at hw ⊢
    generalize decide (idx op < 42) = o at hw ⊢
    go_wp2_with fail
    refine (reftakes_any op w2).mono ?_
    rintro e w3 ⟨rfl, hb3⟩
    generalize refT op = t at hw ⊢
    have hB3 := (Only.ofBelow (S := fun _ => False) hb3).heap HB2.out id
    have hbw3 : Below w.heap.size w w3 := hbw2.trans (hb3.mono hbw2.size)
    have HW3 := Lib.hid hbw3
    have HCL : Hid (∀ W, Below w3.heap.size w3 W → W.cell? ⟨w.heap.size, 0, none⟩ = some (.string (S op)) ∧ W.cell? ⟨w.heap.size, 1, none⟩ = some (.int .i64 n) ∧ W.cell? ⟨w.heap.size, 2, none⟩ = some (.string (S s))) := Lib.hid (fun W hW => by
      have h := (Only.ofBelow (S := fun _ => False) hW).heap hB3 id
      exact ⟨by simp [World.cell?, h], by simp [World.cell?, h], by simp [World.cell?, h]⟩)
    have HA : Hid (∀ W, Below w3.heap.size w3 W → Calls Tryd.prog 6 #[] W fun e w' => e = .returned (.bool true) ∧ Below w3.heap.size w3 w') := Lib.hid (fun W hW => by
      have hb : Below w.heap.size w W := HW3.out.trans (hW.mono HW3.out.size)
      exact (awake_any W (HT.out.keep hb) (HP.out.keep hb)).mono (fun _ _ h => ⟨h.1, hW.trans (h.2.mono hW.size)⟩))
    have HCK : Hid (∀ W, Below w3.heap.size w3 W → Calls Tryd.prog 9 #[.agg #[.string (S op), .int .i64 n, .string (S s)]] W fun e w' => e = .returned (.int .i64 (checkE op n s : Nat)) ∧ Below w3.heap.size w3 w') := Lib.hid (fun W hW => by
      have hb : Below w.heap.size w W := HW3.out.trans (hW.mono HW3.out.size)
      exact (check_any op n s W (HT.out.keep hb) hs).mono (fun _ _ h => ⟨h.1, hW.trans (h.2.mono hW.size)⟩))
    have HRK : Hid (∀ W, Below w3.heap.size w3 W → Calls Tryd.prog 10 #[.agg #[.string (S op), .int .i64 n, .string (S s)]] W fun e w' => e = .returned (.int .i64 (checkE op n s : Nat)) ∧ Below w3.heap.size w3 w') := Lib.hid (fun W hW =>
      (refcheck_any op n s W hs).mono (fun _ _ h => ⟨h.1, hW.trans (h.2.mono hW.size)⟩))
    generalize checkE op n s = E at HCK HRK
    clear hB3 hbw2 hbw3 hb3 HB2 HB HB1 d0 HF hs HH
    go_wp2_with fail
    rcases hw with ⟨rfl, rfl, rfl, rfl⟩ | ⟨rfl, rfl, rfl, rfl⟩ | ⟨rfl, rfl, rfl, rfl⟩ | ⟨rfl, rfl, rfl, rfl⟩
    all_goals
      first
      | (go_region_held (fun W => W.cell? ⟨w.heap.size, 0, none⟩ = some (.string (S op)) ∧ W.cell? ⟨w.heap.size, 1, none⟩ = some (.int .i64 n) ∧ W.cell? ⟨w.heap.size, 2, none⟩ = some (.string (S s))) (first | with_reducible exact HCL.out _ b3 | with_reducible exact HCL.out _ b2 | with_reducible exact HCL.out _ b1 | with_reducible exact HCL.out _ ((Below.refl _ _).drew))
          (first | (go_at_call 6; refine (HA.out _ (by exact (Below.refl _ _).drew)).mono ?_; rintro e wA ⟨rfl, b1⟩) | (go_at_call 9; refine (HCK.out _ (by exact b1)).mono ?_; rintro e wB ⟨rfl, b2⟩) | (go_at_call 10; refine (HRK.out _ (by exact b2)).mono ?_; rintro e wC ⟨rfl, b3⟩)))
      | fail
    all_goals go_wp2
    all_goals go_ret
    all_goals exact ⟨rfl, HW3.out.trans (b3.mono HW3.out.size)⟩
end Go.Proofs.YtcoobdbfgiiejaaDoor
