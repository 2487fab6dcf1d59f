/-
  The contracts of the document's Ops, Number and Takes of layer 4.
  Conditions: none of their own.
-/
import Derived.Test.YtcoobdbfgiiejaaDoorCodeL
import Derived.Test.YtcoobdbfgiiejaaDoorStr
import Derived.IntWalk
namespace Go.Proofs.YtcoobdbfgiiejaaDoor
open Go.RowKit
/-- The operators' names as cells. -/
def nameCells : List Value := opTab.map fun x => .string (S x.1)
theorem nameCells_at (k : Nat) (hk : k < 42) : nameCells[k]? = some (.string (S (nameAt k))) := by
  have hl : k < opTab.length := by rw [opTab_len]; exact hk
  rw [nameCells, List.getElem?_map, List.getElem?_eq_getElem hl, nameAt_get k hl]
  rfl
set_option maxHeartbeats 2000000 in
set_option maxRecDepth 100000 in
theorem refops_any (w : World) :
    Calls Tryd.prog 12 #[] w fun e w' => e = .returned (.slice (some ⟨w.heap.size, 0, none⟩) 42 42) ∧ w.alloc (.cells nameCells.toArray 9) = w' := by
  go_enter Tryd.func12, Tryd.ntmps12
  go_wp2
  go_ret
  exact ⟨rfl, congrArg (fun a => w.alloc (.cells a 9)) (by kernel_rfl)⟩
theorem names_cell (w : World) (k : Nat) (hk : k < 42) : (w.alloc (.cells nameCells.toArray 9)).cell? ⟨w.heap.size, k, none⟩ = some (.string (S (nameAt k))) := by
  have h := nameCells_at k hk
  have hn := heap_alloc_new w (.cells nameCells.toArray 9)
  unfold World.cell?
  rw [hn]
  simpa using h
set_option maxHeartbeats 2000000 in
set_option maxRecDepth 100000 in
theorem refnumber_any (s : List UInt8) (w : World) :
    Calls Tryd.prog 17 #[.string (S s)] w fun e w' => e = .returned (.int .i64 (if idx s < 42 then (idx s : Int) else -1)) ∧ Below w.heap.size w w' := by
  obtain ⟨N, hN⟩ : ∃ N, N = idx s := ⟨_, rfl⟩
  rw [← hN]
  have hlo : ∀ j, j < N → (nameAt j == s) = false := fun j hj => idx_before s j (by omega)
  have hat : N < 42 → (nameAt N == s) = true := fun h => by rw [hN]; exact idx_at s (by omega)
  have hle : N ≤ 42 := by rw [hN]; exact idx_le s
  have HLO := Lib.hid hlo
  have HAT := Lib.hid hat
  clear hlo hat hN
  go_enter Tryd.func17, Tryd.ntmps17
  go_wp2_with (go_at_call 12; refine (refops_any _).mono ?_; rintro e w' ⟨rfl, rfl⟩)
  have hcell : Hid (∀ k, k < 42 → (w.alloc (.cells nameCells.toArray 9)).cell? ⟨w.heap.size, k, none⟩ = some (.string (S (nameAt k)))) := Lib.hid (fun k hk => names_cell w k hk)
  have hbel : Below w.heap.size w (w.alloc (.cells nameCells.toArray 9)) := (Below.refl _ w).alloc (Nat.le_refl _) _
  generalize w.alloc (.cells nameCells.toArray 9) = w1 at hcell hbel ⊢
  have HB := Lib.hid hbel
  clear hbel
  go_loopw [4] (fun v4 wr => wr = w1 ∧ ∃ k : Nat, k ≤ N ∧ v4 = .int .i64 k) (fun v4 _ => 42 - (intOf v4).toNat)
  case atStart => exact ⟨rfl, 0, Nat.zero_le _, rfl⟩
  case round =>
    obtain ⟨rfl, k, hk, rfl⟩ := hrel
    by_cases hlt : k < 42
    · have hlt' : (k : Int) < 42 := by omega
      have hk0 : (0 : Int) ≤ k := by omega
      have hc := hcell.out k hlt
      have es := S_toList s
      have en := S_toList (nameAt k)
      by_cases hkn : k < N
      · have hne := HLO.out k hkn
        go_wp2
        go_roundw
        case rel => exact ⟨trivial, k + 1, by omega, by go_num⟩
        case measure => simp [intOf]; omega
      · obtain rfl : k = N := by omega
        have hne := HAT.out hlt
        go_wp2
        go_ret
        exact ⟨rfl, HB.out⟩
    · obtain rfl : k = 42 := by omega
      obtain rfl : N = 42 := by omega
      go_wp2
      go_ret
      exact ⟨rfl, HB.out⟩
/-- What an operator takes: 0 nothing, 1 a number, 2 a text; -1: there is none. -/
def refT (op : List UInt8) : Int := if idx op < 42 then (if hasAt (idx op) = 1 then 1 else if 2 ≤ hasAt (idx op) then 2 else 0) else -1
def thirteen : List (List UInt8) := [[105, 110, 116], [108, 111, 97, 100], [115, 116, 111, 114, 101], [106, 117, 109, 112], [98, 114, 97, 110, 99, 104], [119, 111, 114, 100], [110, 101, 119], [103, 101, 116], [112, 117, 116], [99, 97, 108, 108], [97, 114, 114, 97, 121], [105, 115], [99, 97, 115, 116]]
theorem rest_zero : ∀ k : Fin 42, thirteen.contains (nameAt k.val) = false → hasAt k.val = 0 := by decide
theorem refT_rest (op : List UInt8) (h : thirteen.contains op = false) : refT op = if idx op < 42 then 0 else -1 := by
  unfold refT
  by_cases hN : idx op < 42
  · have e := beq_iff_eq.1 (idx_at op hN)
    have hz := rest_zero ⟨idx op, hN⟩ (by show thirteen.contains (nameAt (idx op)) = false; rw [e]; exact h)
    have hz' : hasAt (idx op) = 0 := hz
    rw [if_pos hN, if_pos hN, hz']
    rfl
  · rw [if_neg hN, if_neg hN]
set_option maxHeartbeats 2000000 in
set_option maxRecDepth 100000 in
theorem reftakes_any (op : List UInt8) (w : World) :
    Calls Tryd.prog 8 #[.string (S op)] w fun e w' => e = .returned (.int .i64 (refT op)) ∧ Below w.heap.size w w' := by
  have es := S_toList op
  by_cases h0 : op = [105, 110, 116]
  · subst h0
    rw [show refT [105, 110, 116] = 1 from by decide]
    go_enter Tryd.func8, Tryd.ntmps8
    go_wp2
    go_ret
    exact ⟨rfl, Below.refl _ _⟩
  have e0 : (op == [105, 110, 116]) = false := by rw [beq_eq_false_iff_ne]; exact h0
  by_cases h1 : op = [108, 111, 97, 100]
  · subst h1
    rw [show refT [108, 111, 97, 100] = 1 from by decide]
    go_enter Tryd.func8, Tryd.ntmps8
    go_wp2
    go_ret
    exact ⟨rfl, Below.refl _ _⟩
  have e1 : (op == [108, 111, 97, 100]) = false := by rw [beq_eq_false_iff_ne]; exact h1
  by_cases h2 : op = [115, 116, 111, 114, 101]
  · subst h2
    rw [show refT [115, 116, 111, 114, 101] = 1 from by decide]
    go_enter Tryd.func8, Tryd.ntmps8
    go_wp2
    go_ret
    exact ⟨rfl, Below.refl _ _⟩
  have e2 : (op == [115, 116, 111, 114, 101]) = false := by rw [beq_eq_false_iff_ne]; exact h2
  by_cases h3 : op = [106, 117, 109, 112]
  · subst h3
    rw [show refT [106, 117, 109, 112] = 1 from by decide]
    go_enter Tryd.func8, Tryd.ntmps8
    go_wp2
    go_ret
    exact ⟨rfl, Below.refl _ _⟩
  have e3 : (op == [106, 117, 109, 112]) = false := by rw [beq_eq_false_iff_ne]; exact h3
  by_cases h4 : op = [98, 114, 97, 110, 99, 104]
  · subst h4
    rw [show refT [98, 114, 97, 110, 99, 104] = 1 from by decide]
    go_enter Tryd.func8, Tryd.ntmps8
    go_wp2
    go_ret
    exact ⟨rfl, Below.refl _ _⟩
  have e4 : (op == [98, 114, 97, 110, 99, 104]) = false := by rw [beq_eq_false_iff_ne]; exact h4
  by_cases h5 : op = [119, 111, 114, 100]
  · subst h5
    rw [show refT [119, 111, 114, 100] = 2 from by decide]
    go_enter Tryd.func8, Tryd.ntmps8
    go_wp2
    go_ret
    exact ⟨rfl, Below.refl _ _⟩
  have e5 : (op == [119, 111, 114, 100]) = false := by rw [beq_eq_false_iff_ne]; exact h5
  by_cases h6 : op = [110, 101, 119]
  · subst h6
    rw [show refT [110, 101, 119] = 2 from by decide]
    go_enter Tryd.func8, Tryd.ntmps8
    go_wp2
    go_ret
    exact ⟨rfl, Below.refl _ _⟩
  have e6 : (op == [110, 101, 119]) = false := by rw [beq_eq_false_iff_ne]; exact h6
  by_cases h7 : op = [103, 101, 116]
  · subst h7
    rw [show refT [103, 101, 116] = 2 from by decide]
    go_enter Tryd.func8, Tryd.ntmps8
    go_wp2
    go_ret
    exact ⟨rfl, Below.refl _ _⟩
  have e7 : (op == [103, 101, 116]) = false := by rw [beq_eq_false_iff_ne]; exact h7
  by_cases h8 : op = [112, 117, 116]
  · subst h8
    rw [show refT [112, 117, 116] = 2 from by decide]
    go_enter Tryd.func8, Tryd.ntmps8
    go_wp2
    go_ret
    exact ⟨rfl, Below.refl _ _⟩
  have e8 : (op == [112, 117, 116]) = false := by rw [beq_eq_false_iff_ne]; exact h8
  by_cases h9 : op = [99, 97, 108, 108]
  · subst h9
    rw [show refT [99, 97, 108, 108] = 2 from by decide]
    go_enter Tryd.func8, Tryd.ntmps8
    go_wp2
    go_ret
    exact ⟨rfl, Below.refl _ _⟩
  have e9 : (op == [99, 97, 108, 108]) = false := by rw [beq_eq_false_iff_ne]; exact h9
  by_cases h10 : op = [97, 114, 114, 97, 121]
  · subst h10
    rw [show refT [97, 114, 114, 97, 121] = 2 from by decide]
    go_enter Tryd.func8, Tryd.ntmps8
    go_wp2
    go_ret
    exact ⟨rfl, Below.refl _ _⟩
  have e10 : (op == [97, 114, 114, 97, 121]) = false := by rw [beq_eq_false_iff_ne]; exact h10
  by_cases h11 : op = [105, 115]
  · subst h11
    rw [show refT [105, 115] = 2 from by decide]
    go_enter Tryd.func8, Tryd.ntmps8
    go_wp2
    go_ret
    exact ⟨rfl, Below.refl _ _⟩
  have e11 : (op == [105, 115]) = false := by rw [beq_eq_false_iff_ne]; exact h11
  by_cases h12 : op = [99, 97, 115, 116]
  · subst h12
    rw [show refT [99, 97, 115, 116] = 2 from by decide]
    go_enter Tryd.func8, Tryd.ntmps8
    go_wp2
    go_ret
    exact ⟨rfl, Below.refl _ _⟩
  have e12 : (op == [99, 97, 115, 116]) = false := by rw [beq_eq_false_iff_ne]; exact h12
  have hr : thirteen.contains op = false := by
    simp only [thirteen, List.contains_cons, List.contains_nil, e0, e1, e2, e3, e4, e5, e6, e7, e8, e9, e10, e11, e12, Bool.or_false]
  rw [refT_rest op hr]
  have HN := Lib.hid (refnumber_any op w)
  by_cases hN : idx op < 42
  · rw [if_pos hN] at HN ⊢
    generalize idx op = q at HN
    have hq : ¬ ((q : Int) < 0) := by omega
    clear hr hN h0 h1 h2 h3 h4 h5 h6 h7 h8 h9 h10 h11 h12
    go_enter Tryd.func8, Tryd.ntmps8
    go_wp2_with (go_at_call 17; refine HN.out.mono ?_; rintro e w' ⟨rfl, hb⟩)
    go_ret
    exact ⟨rfl, hb⟩
  · rw [if_neg hN] at HN ⊢
    clear hr hN h0 h1 h2 h3 h4 h5 h6 h7 h8 h9 h10 h11 h12
    go_enter Tryd.func8, Tryd.ntmps8
    go_wp2_with (go_at_call 17; refine HN.out.mono ?_; rintro e w' ⟨rfl, hb⟩)
    go_ret
    exact ⟨rfl, hb⟩
end Go.Proofs.YtcoobdbfgiiejaaDoor
