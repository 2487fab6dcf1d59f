/-
  The contracts of the document's Ops, Number and Takes of layer 4.
  The contracts of the document's Elem and Parts of layer 3.
  Conditions: as each text of it says.
-/
import Derived.Test.YtpincofjopmaaaaGreatDoorM04
import Derived.IntWalk
import Derived.Test.YtpincofjopmaaaaGreatDoorM02
import Derived.Deep.QuietTactic
import Derived.BigQuiet
namespace Go.Proofs.YtpincofjopmaaaaGreatDoor
open Go.RowKit
def nameCells : List Value := opTab.map fun x => .string (S x.1)
theorem nameCells_at (k : Nat) (hk : k < 42) : nameCells[k]? = some (.string (S (nameAt k))) := by
  have hl : k < opTab.length := by rw [opTab_len]; exact hk
  rw [nameCells, List.getElem?_map, List.getElem?_eq_getElem hl, nameAt_get k hl]
  rfl
set_option maxHeartbeats 2000000 in
set_option maxRecDepth 100000 in
theorem refops_any (w : World) :
    Calls Tryz.prog 292 #[] w fun e w' => e = .returned (.slice (some ⟨w.heap.size, 0, none⟩) 42 42) ∧ w.alloc (.cells nameCells.toArray 9) = w' := by
  go_enter Tryz.func292, Tryz.ntmps292
  go_wp2
  go_ret
  exact ⟨rfl, congrArg (fun a => w.alloc (.cells a 9)) (by kernel_rfl)⟩
theorem names_cell (w : World) (k : Nat) (hk : k < 42) : (w.alloc (.cells nameCells.toArray 9)).cell? ⟨w.heap.size, k, none⟩ = some (.string (S (nameAt k))) := by
  have h := nameCells_at k hk
  have hn := heap_alloc_new w (.cells nameCells.toArray 9)
  unfold World.cell?
  rw [hn]
  simpa using h
set_option maxHeartbeats 2000000 in
set_option maxRecDepth 100000 in
theorem refnumber_any (s : List UInt8) (w : World) :
    Calls Tryz.prog 281 #[.string (S s)] w fun e w' => e = .returned (.int .i64 (if idx s < 42 then (idx s : Int) else -1)) ∧ Below w.heap.size w w' := by
  obtain ⟨N, hN⟩ : ∃ N, N = idx s := ⟨_, rfl⟩
  rw [← hN]
  have hlo : ∀ j, j < N → (nameAt j == s) = false := fun j hj => idx_before s j (by omega)
  have hat : N < 42 → (nameAt N == s) = true := fun h => by rw [hN]; exact idx_at s (by omega)
  have hle : N ≤ 42 := by rw [hN]; exact idx_le s
  have HLO := Lib.hid hlo
  have HAT := Lib.hid hat
  clear hlo hat hN
  go_enter Tryz.func281, Tryz.ntmps281
  go_wp2_with (go_at_call 292; refine (refops_any _).mono ?_; rintro e w' ⟨rfl, rfl⟩)
  have hcell : Hid (∀ k, k < 42 → (w.alloc (.cells nameCells.toArray 9)).cell? ⟨w.heap.size, k, none⟩ = some (.string (S (nameAt k)))) := Lib.hid (fun k hk => names_cell w k hk)
  have hbel : Below w.heap.size w (w.alloc (.cells nameCells.toArray 9)) := (Below.refl _ w).alloc (Nat.le_refl _) _
  generalize w.alloc (.cells nameCells.toArray 9) = w1 at hcell hbel ⊢
  have HB := Lib.hid hbel
  clear hbel
  go_loopw [4] (fun v4 wr => wr = w1 ∧ ∃ k : Nat, k ≤ N ∧ v4 = .int .i64 k) (fun v4 _ => 42 - (intOf v4).toNat)
  case atStart => exact ⟨rfl, 0, Nat.zero_le _, rfl⟩
  case round =>
    obtain ⟨rfl, k, hk, rfl⟩ := hrel
    by_cases hlt : k < 42
    · have hlt' : (k : Int) < 42 := by omega
      have hk0 : (0 : Int) ≤ k := by omega
      have hc := hcell.out k hlt
      have es := S_toList s
      have en := S_toList (nameAt k)
      by_cases hkn : k < N
      · have hne := HLO.out k hkn
        go_wp2
        go_roundw
        case rel => exact ⟨trivial, k + 1, by omega, by go_num⟩
        case measure => simp [intOf]; omega
      · obtain rfl : k = N := by omega
        have hne := HAT.out hlt
        go_wp2
        go_ret
        exact ⟨rfl, HB.out⟩
    · obtain rfl : k = 42 := by omega
      obtain rfl : N = 42 := by omega
      go_wp2
      go_ret
      exact ⟨rfl, HB.out⟩
def refT (op : List UInt8) : Int := if idx op < 42 then (if hasAt (idx op) = 1 then 1 else if 2 ≤ hasAt (idx op) then 2 else 0) else -1
def thirteen : List (List UInt8) := [[105, 110, 116], [108, 111, 97, 100], [115, 116, 111, 114, 101], [106, 117, 109, 112], [98, 114, 97, 110, 99, 104], [119, 111, 114, 100], [110, 101, 119], [103, 101, 116], [112, 117, 116], [99, 97, 108, 108], [97, 114, 114, 97, 121], [105, 115], [99, 97, 115, 116]]
theorem rest_zero : ∀ k : Fin 42, thirteen.contains (nameAt k.val) = false → hasAt k.val = 0 := by decide
theorem refT_rest (op : List UInt8) (h : thirteen.contains op = false) : refT op = if idx op < 42 then 0 else -1 := by
  unfold refT
  by_cases hN : idx op < 42
  · have e := beq_iff_eq.1 (idx_at op hN)
    have hz := rest_zero ⟨idx op, hN⟩ (by show thirteen.contains (nameAt (idx op)) = false; rw [e]; exact h)
    have hz' : hasAt (idx op) = 0 := hz
    rw [if_pos hN, if_pos hN, hz']
    rfl
  · rw [if_neg hN, if_neg hN]
set_option maxHeartbeats 2000000 in
set_option maxRecDepth 100000 in
theorem reftakes_any (op : List UInt8) (w : World) :
    Calls Tryz.prog 269 #[.string (S op)] w fun e w' => e = .returned (.int .i64 (refT op)) ∧ Below w.heap.size w w' := by
  have es := S_toList op
  by_cases h0 : op = [105, 110, 116]
  · subst h0
    rw [show refT [105, 110, 116] = 1 from by decide]
    go_enter Tryz.func269, Tryz.ntmps269
    go_wp2
    go_ret
    exact ⟨rfl, Below.refl _ _⟩
  have e0 : (op == [105, 110, 116]) = false := by rw [beq_eq_false_iff_ne]; exact h0
  by_cases h1 : op = [108, 111, 97, 100]
  · subst h1
    rw [show refT [108, 111, 97, 100] = 1 from by decide]
    go_enter Tryz.func269, Tryz.ntmps269
    go_wp2
    go_ret
    exact ⟨rfl, Below.refl _ _⟩
  have e1 : (op == [108, 111, 97, 100]) = false := by rw [beq_eq_false_iff_ne]; exact h1
  by_cases h2 : op = [115, 116, 111, 114, 101]
  · subst h2
    rw [show refT [115, 116, 111, 114, 101] = 1 from by decide]
    go_enter Tryz.func269, Tryz.ntmps269
    go_wp2
    go_ret
    exact ⟨rfl, Below.refl _ _⟩
  have e2 : (op == [115, 116, 111, 114, 101]) = false := by rw [beq_eq_false_iff_ne]; exact h2
  by_cases h3 : op = [106, 117, 109, 112]
  · subst h3
    rw [show refT [106, 117, 109, 112] = 1 from by decide]
    go_enter Tryz.func269, Tryz.ntmps269
    go_wp2
    go_ret
    exact ⟨rfl, Below.refl _ _⟩
  have e3 : (op == [106, 117, 109, 112]) = false := by rw [beq_eq_false_iff_ne]; exact h3
  by_cases h4 : op = [98, 114, 97, 110, 99, 104]
  · subst h4
    rw [show refT [98, 114, 97, 110, 99, 104] = 1 from by decide]
    go_enter Tryz.func269, Tryz.ntmps269
    go_wp2
    go_ret
    exact ⟨rfl, Below.refl _ _⟩
  have e4 : (op == [98, 114, 97, 110, 99, 104]) = false := by rw [beq_eq_false_iff_ne]; exact h4
  by_cases h5 : op = [119, 111, 114, 100]
  · subst h5
    rw [show refT [119, 111, 114, 100] = 2 from by decide]
    go_enter Tryz.func269, Tryz.ntmps269
    go_wp2
    go_ret
    exact ⟨rfl, Below.refl _ _⟩
  have e5 : (op == [119, 111, 114, 100]) = false := by rw [beq_eq_false_iff_ne]; exact h5
  by_cases h6 : op = [110, 101, 119]
  · subst h6
    rw [show refT [110, 101, 119] = 2 from by decide]
    go_enter Tryz.func269, Tryz.ntmps269
    go_wp2
    go_ret
    exact ⟨rfl, Below.refl _ _⟩
  have e6 : (op == [110, 101, 119]) = false := by rw [beq_eq_false_iff_ne]; exact h6
  by_cases h7 : op = [103, 101, 116]
  · subst h7
    rw [show refT [103, 101, 116] = 2 from by decide]
    go_enter Tryz.func269, Tryz.ntmps269
    go_wp2
    go_ret
    exact ⟨rfl, Below.refl _ _⟩
  have e7 : (op == [103, 101, 116]) = false := by rw [beq_eq_false_iff_ne]; exact h7
  by_cases h8 : op = [112, 117, 116]
  · subst h8
    rw [show refT [112, 117, 116] = 2 from by decide]
    go_enter Tryz.func269, Tryz.ntmps269
    go_wp2
    go_ret
    exact ⟨rfl, Below.refl _ _⟩
  have e8 : (op == [112, 117, 116]) = false := by rw [beq_eq_false_iff_ne]; exact h8
  by_cases h9 : op = [99, 97, 108, 108]
  · subst h9
    rw [show refT [99, 97, 108, 108] = 2 from by decide]
    go_enter Tryz.func269, Tryz.ntmps269
    go_wp2
    go_ret
    exact ⟨rfl, Below.refl _ _⟩
  have e9 : (op == [99, 97, 108, 108]) = false := by rw [beq_eq_false_iff_ne]; exact h9
  by_cases h10 : op = [97, 114, 114, 97, 121]
  · subst h10
    rw [show refT [97, 114, 114, 97, 121] = 2 from by decide]
    go_enter Tryz.func269, Tryz.ntmps269
    go_wp2
    go_ret
    exact ⟨rfl, Below.refl _ _⟩
  have e10 : (op == [97, 114, 114, 97, 121]) = false := by rw [beq_eq_false_iff_ne]; exact h10
  by_cases h11 : op = [105, 115]
  · subst h11
    rw [show refT [105, 115] = 2 from by decide]
    go_enter Tryz.func269, Tryz.ntmps269
    go_wp2
    go_ret
    exact ⟨rfl, Below.refl _ _⟩
  have e11 : (op == [105, 115]) = false := by rw [beq_eq_false_iff_ne]; exact h11
  by_cases h12 : op = [99, 97, 115, 116]
  · subst h12
    rw [show refT [99, 97, 115, 116] = 2 from by decide]
    go_enter Tryz.func269, Tryz.ntmps269
    go_wp2
    go_ret
    exact ⟨rfl, Below.refl _ _⟩
  have e12 : (op == [99, 97, 115, 116]) = false := by rw [beq_eq_false_iff_ne]; exact h12
  have hr : thirteen.contains op = false := by
    simp only [thirteen, List.contains_cons, List.contains_nil, e0, e1, e2, e3, e4, e5, e6, e7, e8, e9, e10, e11, e12, Bool.or_false]
  rw [refT_rest op hr]
  have HN := Lib.hid (refnumber_any op w)
  by_cases hN : idx op < 42
  · rw [if_pos hN] at HN ⊢
    generalize idx op = q at HN
    have hq : ¬ ((q : Int) < 0) := by omega
    clear hr hN h0 h1 h2 h3 h4 h5 h6 h7 h8 h9 h10 h11 h12
    go_enter Tryz.func269, Tryz.ntmps269
    go_wp2_with (go_at_call 281; refine HN.out.mono ?_; rintro e w' ⟨rfl, hb⟩)
    go_ret
    exact ⟨rfl, hb⟩
  · rw [if_neg hN] at HN ⊢
    clear hr hN h0 h1 h2 h3 h4 h5 h6 h7 h8 h9 h10 h11 h12
    go_enter Tryz.func269, Tryz.ntmps269
    go_wp2_with (go_at_call 281; refine HN.out.mono ?_; rintro e w' ⟨rfl, hb⟩)
    go_ret
    exact ⟨rfl, hb⟩
end Go.Proofs.YtpincofjopmaaaaGreatDoor
namespace Go.Proofs.YtpincofjopmaaaaGreatDoor
open Go.RowKit
theorem dot_stop {l : List UInt8} {k : Nat} (hk : k < l.length) (h : k ≤ dotAt l) (hc : l.getD k 0 = 46) : dotAt l = k := by
  rcases Nat.lt_or_ge k (dotAt l) with h1 | h1
  · have := List.not_of_lt_findIdx h1
    simp [List.getD, List.getElem?_eq_getElem hk] at hc
    simp [hc] at this
  · omega
theorem dot_next {l : List UInt8} {k : Nat} (hk : k < l.length) (h : k ≤ dotAt l) (hc : l.getD k 0 ≠ 46) : k + 1 ≤ dotAt l := by
  rcases Nat.lt_or_ge k (dotAt l) with h1 | h1
  · omega
  · have e : dotAt l = k := by omega
    exfalso
    have hlt : dotAt l < l.length := by omega
    have := List.findIdx_getElem (xs := l) (p := fun c => c == 46) (w := hlt)
    apply hc
    simp only [beq_iff_eq] at this
    rw [List.getD, List.getElem?_eq_getElem hk, Option.getD_some]
    rw [← this]
    congr 1
    exact e.symm
def RefParts (l : List UInt8) (w : World) (e : Ending) (w' : World) : Prop :=
  (∃ q, w' = w.drewN q) ∧ ((dotAt l < l.length ∧ e = .returned (.tuple #[.string (S (l.take (dotAt l))), .string (S (l.drop (dotAt l + 1))), .bool (partsB l)])) ∨
    (l.length ≤ dotAt l ∧ e = .returned (.tuple #[.string ⟨#[]⟩, .string ⟨#[]⟩, .bool false])))
set_option maxHeartbeats 1000000 in
set_option maxRecDepth 100000 in
theorem refparts_any (l : List UInt8) (w : World) (hlim : l.length ≤ 9223372036854775807) :
    Calls Tryz.prog 271 #[.string (S l)] w (RefParts l w) := by
  have hsz : ((S l).size : Int) = (l.length : Int) := by rw [S_size]
  obtain ⟨n, hn⟩ : ∃ n, n = l.length := ⟨_, rfl⟩
  rw [← hn] at hsz
  have HN := Lib.hid hn
  have hn1 : n ≤ 9223372036854775807 := by omega
  have HC : Hid (∀ k w, Calls Tryz.prog 111 #[.string (S (l.take k))] w fun e w' => e = .returned (.bool (classB (l.take k))) ∧ w = w') := fun k w => refclass_any (l.take k) w (by rw [List.length_take]; omega)
  have HMB : Hid (∀ k w, Calls Tryz.prog 112 #[.string (S (l.drop k))] w fun e w' => e = .returned (.bool (memberB (l.drop k))) ∧ w = w') := fun k w => refmember_any (l.drop k) w (by rw [List.length_drop]; omega)
  clear hn hlim
  go_enter Tryz.func271, Tryz.ntmps271
  go_wp2
  go_loop [5] (fun v5 => ∃ k : Nat, k ≤ n ∧ v5 = .int .i64 k ∧ k ≤ dotAt l) (fun v5 => n - (intOf v5).toNat)
  case atStart => exact ⟨0, Nat.zero_le _, rfl, Nat.zero_le _⟩
  case round =>
    obtain ⟨k, hk, rfl, hdot⟩ := hrel
    by_cases hlt : k < n
    · have hkl : k < l.length := by have := HN.out; omega
      obtain ⟨x, hx⟩ : ∃ x, x = l.getD k 0 := ⟨_, rfl⟩
      obtain ⟨c, hc⟩ : ∃ c, c = x.toNat := ⟨_, rfl⟩
      have hget : ∀ h : k < (S l).size, ((S l)[k]'h).toNat = c := fun h => by rw [hc, hx, S_at l k hkl h]
      by_cases hp : x = 46
      · have hd : dotAt l = k := dot_stop hkl hdot (by rw [← hx]; exact hp)
        obtain rfl : c = 46 := by rw [hc, hp]; rfl
        have HD := Lib.hid hd
        clear hd hx hc hp hdot
        have hcut1 := S_take l k
        have hcut2 := S_drop l (k + 1)
        have w1 : IntKind.i64.wrap ((k : Int) + 1) = (k : Int) + 1 := IntWalk.i64_in _ (by omega)
        have w2 : ((k : Int) + 1).toNat = k + 1 := by omega
        have w3 : (0 : Int) ≤ (k : Int) + 1 := by omega
        have w4 : (k : Int) + 1 ≤ (n : Int) := by omega
        have w5 : (0 : Int) ≤ (k : Int) := by omega
        have w6 : (k : Int) ≤ (n : Int) := by omega
        have HK := Lib.hid hkl
        clear hkl
        have HPT := Lib.hid (show partsB l = (classB (l.take k) && memberB (l.drop (k + 1))) by unfold partsB; rw [HD.out, decide_eq_true HK.out, Bool.true_and])
        have hdl : dotAt l < l.length := by rw [HD.out]; exact HK.out
        have HCK := HC.out k
        have HMK := Lib.hid (HMB.out (k + 1))
        cases hcl : classB (l.take k) with
        | true =>
          rw [hcl] at HCK
          rw [hcl, Bool.true_and] at HPT
          have HCT := Lib.hid HCK
          clear hcl HCK HC HMB
          generalize memberB (l.drop (k + 1)) = b at HMK HPT
          go_wp2_with fail
          go_quiet ((first | (go_at_call 111; exact Calls.quiet_of_same ((HCT.out _).mono (fun _ _ h => ⟨h.1, h.2.symm⟩))) | (go_at_call 112; exact Calls.quiet_of_same ((HMK.out _).mono (fun _ _ h => ⟨h.1, h.2.symm⟩)))))
          go_wp2
          go_ret3
          exact ⟨⟨nq, rfl⟩, .inl ⟨hdl, by rw [HD.out, HPT.out]; rfl⟩⟩
        | false =>
          rw [hcl] at HCK
          rw [hcl, Bool.false_and] at HPT
          have HCT := Lib.hid HCK
          clear hcl HCK HC HMB
          go_wp2_with fail
          go_quiet ((first | (go_at_call 111; exact Calls.quiet_of_same ((HCT.out _).mono (fun _ _ h => ⟨h.1, h.2.symm⟩))) | (go_at_call 112; exact Calls.quiet_of_same ((HMK.out _).mono (fun _ _ h => ⟨h.1, h.2.symm⟩)))))
          go_wp2
          go_ret3
          exact ⟨⟨nq, rfl⟩, .inl ⟨hdl, by rw [HD.out, HPT.out]; rfl⟩⟩
      · have hd := dot_next hkl hdot (by rw [← hx]; exact hp)
        have hcb : ((c : Int) == 46) = false := by
          rw [beq_eq_false_iff_ne]
          intro h
          apply hp
          apply UInt8.toNat_inj.1
          rw [← hc]
          show c = 46
          omega
        clear hx hc hp
        go_wp2
        go_round
        case rel => exact ⟨k + 1, by omega, by go_num, hd⟩
        case measure => simp [intOf]; omega
    · have hge : l.length ≤ dotAt l := by have := HN.out; omega
      go_wp2
      go_ret3
      exact ⟨⟨0, rfl⟩, .inr ⟨hge, rfl⟩⟩
end Go.Proofs.YtpincofjopmaaaaGreatDoor
