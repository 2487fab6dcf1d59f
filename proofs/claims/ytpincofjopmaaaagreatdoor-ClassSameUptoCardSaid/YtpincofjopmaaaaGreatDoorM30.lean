/-
  The contracts of the document's many and method of layer 5.
  Conditions: the class's parts lie in memory that was there before; texts and lists that a machine may hold.
  The contracts of the document's Ops, Number and Takes of layer 4.
  Conditions: none of their own.
  The contracts of the document's Elem and Parts of layer 3.
  Conditions: the text has fewer than 2^40 bytes.
-/
import Derived.Test.YtpincofjopmaaaaGreatDoorM22
import Derived.Test.YtpincofjopmaaaaGreatDoorM02
import Derived.IntWalk
import Derived.Test.YtpincofjopmaaaaGreatDoorM03
import Derived.Deep.QuietTactic
import Derived.BigQuiet
namespace Go.Proofs.YtpincofjopmaaaaGreatDoor
open Go.RowKit
theorem Src.elem {α : Type} {n : Nat} {R : ElemRel α} {A : Nat → Prop} {w : World} {so : Option Addr} {m sc : Nat} {l : List α} (hs : Src n R A w (.slice so m sc) l) :
    ∀ (k : Nat) (x : α), l[k]? = some x → ∃ b o v, so = some ⟨b, o, none⟩ ∧ R A w x v ∧ v.cells.size = n ∧ ∀ (j : Nat) u, v.cells[j]? = some u → w.cell? ⟨b, o + k * n + j, none⟩ = some u := by
  intro k x hx
  rcases hs with ⟨ao, cp0, he, rfl⟩ | ⟨b, o, cap, he, _, hc⟩
  · simp at hx
  · simp at he
    obtain ⟨v, hv, hsz, hcl⟩ := hc k x hx
    exact ⟨b, o, v, he.1, hv, hsz, hcl⟩
set_option maxHeartbeats 4000000 in
set_option maxRecDepth 100000 in
theorem any_take {α : Type} {p : α → Bool} {l : List α} {k : Nat} (h : (l.take k).any p = true) : l.any p = true := by
  rw [List.any_eq_true] at h ⊢
  obtain ⟨x, hx, hp⟩ := h
  exact ⟨x, List.mem_of_mem_take hx, hp⟩
set_option maxHeartbeats 4000000 in
set_option maxRecDepth 100000 in
theorem refmany_any {A : Nat → Prop} (c : Cls) (v : Value) (w : World) (hv : ClsR A w c v) (hfit : c.Fit) :
    Calls Tryz.prog 56 #[v] w (Said c.many w) := by
  obtain ⟨lv, fv, mv, rfl, hl, hf, hm⟩ := hv
  obtain ⟨lo, lc, rfl⟩ := hl.shape
  obtain ⟨fo, fc, rfl⟩ := hf.shape
  obtain ⟨mo, mc, rfl⟩ := hm.shape
  have hb0 : Below w.heap.size w (w.alloc (.cells #[.string (S c.name), .string (S c.sup), .slice lo c.like.length lc, .bool c.itf, .bool c.abs, .bool c.fin, .slice fo c.flds.length fc, .slice mo c.mths.length mc] 26)) := (Below.refl _ w).alloc (Nat.le_refl _) _
  have HB0 := Lib.hid hb0
  have HBX := Lib.hid (Box.new w #[.string (S c.name), .string (S c.sup), .slice lo c.like.length lc, .bool c.itf, .bool c.abs, .bool c.fin, .slice fo c.flds.length fc, .slice mo c.mths.length mc] 26)
  have HC := Lib.hid (Src.elem (MthR.st.below hm hb0))
  obtain ⟨n, hn⟩ : ∃ n, n = c.mths.length := ⟨_, rfl⟩
  have HN := Lib.hid hn
  have hn3 : n ≤ 9223372036854775807 := by rw [hn]; exact hfit.n3
  have hn1 := hfit.n1
  have hn2 := hfit.n2
  have hMA : c.many = (decide (32 < c.like.length) || (decide (32 < c.flds.length) || (decide (32 < n) || c.mths.any Mth.many))) := by rw [hn]; rfl
  have HMA := Lib.hid hMA
  rw [← hn] at hb0 HB0 HBX HC ⊢
  obtain ⟨R, hR⟩ : ∃ R, R = c.many := ⟨_, rfl⟩
  rw [← hR] at HMA ⊢
  have HF : Hid (∀ x ∈ c.mths, x.Fit) := Lib.hid hfit.mths
  clear hl hf hm hb0 hn hMA hR hfit
  go_enter Tryz.func56, Tryz.ntmps56
  go_wp2
  generalize w.alloc (.cells #[.string (S c.name), .string (S c.sup), .slice lo c.like.length lc, .bool c.itf, .bool c.abs, .bool c.fin, .slice fo c.flds.length fc, .slice mo n mc] 26) = W0 at HB0 HBX HC ⊢
  obtain ⟨B, hB⟩ : ∃ B, B = w.heap.size := ⟨_, rfl⟩
  rw [← hB] at HBX ⊢
  clear hB
  go_loopw [3] (fun v3 wr => ∃ k : Nat, k ≤ n ∧ v3 = .int .i64 k ∧ (c.mths.take k).any Mth.many = false ∧ Below W0.heap.size W0 wr) (fun v3 _ => n - (intOf v3).toNat)
  case atStart => exact ⟨0, Nat.zero_le _, rfl, by simp, Below.refl _ _⟩
  case round =>
    obtain ⟨k, hk, rfl, hall, hbw⟩ := hrel
    have HA := Lib.hid hall
    have HBW := Lib.hid hbw
    have c7 := (HBX.out.below hbw).cell 7 rfl
    clear hall hbw
    by_cases hlt : k < n
    · have hkl : k < c.mths.length := by have := HN.out; omega
      obtain ⟨x, hx⟩ : ∃ x, c.mths[k]? = some x := ⟨_, List.getElem?_eq_getElem hkl⟩
      have hoW := Only.ofBelow (S := fun _ => False) HBW.out
      obtain ⟨b, o, v, rfl, hv, hsz, hcl⟩ := HC.out k x hx
      have HV := Lib.hid (MthR.st.keep hv hoW (fun _ _ => id))
      obtain ⟨_, _, _, rfl, ⟨po, pc, rfl⟩, ⟨co, cc, rfl⟩, ⟨ko, kc, rfl⟩⟩ := mth_shape hv
      have d0 : wr.cell? ⟨b, o + k * 7, none⟩ = some (.string (S x.name)) := hoW.cell (a := ⟨b, o + k * 7, none⟩) (hcl 0 _ rfl) id
      have d1 : wr.cell? ⟨b, o + k * 7 + 1, none⟩ = some (.slice po x.params.length pc) := hoW.cell (a := ⟨b, o + k * 7 + 1, none⟩) (hcl 1 _ rfl) id
      have d2 : wr.cell? ⟨b, o + k * 7 + 2, none⟩ = some (.string (S x.res)) := hoW.cell (a := ⟨b, o + k * 7 + 2, none⟩) (hcl 2 _ rfl) id
      have d3 : wr.cell? ⟨b, o + k * 7 + 3, none⟩ = some (.bool x.abs) := hoW.cell (a := ⟨b, o + k * 7 + 3, none⟩) (hcl 3 _ rfl) id
      have d4 : wr.cell? ⟨b, o + k * 7 + 4, none⟩ = some (.int .i64 x.loc) := hoW.cell (a := ⟨b, o + k * 7 + 4, none⟩) (hcl 4 _ rfl) id
      have d5 : wr.cell? ⟨b, o + k * 7 + 5, none⟩ = some (.slice co x.code.length cc) := hoW.cell (a := ⟨b, o + k * 7 + 5, none⟩) (hcl 5 _ rfl) id
      have d6 : wr.cell? ⟨b, o + k * 7 + 6, none⟩ = some (.slice ko x.cats.length kc) := hoW.cell (a := ⟨b, o + k * 7 + 6, none⟩) (hcl 6 _ rfl) id
      clear hcl hsz
      have HX := Lib.hid hx
      have hts := take_any_succ Mth.many c.mths k x hx
      rw [HA.out, Bool.false_or] at hts
      have HTS := Lib.hid hts
      clear hx hkl hoW hts
      have hk0 : (0 : Int) ≤ k := by omega
      have hkn : (k : Int) < (n : Int) := by omega
      by_cases h1 : 32 < x.params.length
      · have ih1 : 32 < (x.params.length : Int) := by omega
        have hmx : x.many = true := by unfold Mth.many; simp [h1]
        rw [hmx] at HTS
        have hR : R = true := by rw [HMA.out, any_take HTS.out]; simp
        subst hR
        have HBE := Lib.hid (HB0.out.trans ((below_alloc HBW.out _).mono HB0.out.size) : Below w.heap.size w (wr.alloc (.cells #[.string (S x.name), .slice po x.params.length pc, .string (S x.res), .bool x.abs, .int .i64 x.loc, .slice co x.code.length cc, .slice ko x.cats.length kc] 33)))
        clear hmx h1
        go_wp2
        go_ret
        exact ⟨ret_bool (rfl), HBE.out⟩
      · have ih1 : ¬ (32 < (x.params.length : Int)) := by omega
        by_cases h2 : 32 < x.cats.length
        · have ih2 : 32 < (x.cats.length : Int) := by omega
          have hmx : x.many = true := by unfold Mth.many; simp [h1, h2]
          rw [hmx] at HTS
          have hR : R = true := by rw [HMA.out, any_take HTS.out]; simp
          subst hR
          have HBE := Lib.hid (HB0.out.trans ((below_alloc HBW.out _).mono HB0.out.size) : Below w.heap.size w (wr.alloc (.cells #[.string (S x.name), .slice po x.params.length pc, .string (S x.res), .bool x.abs, .int .i64 x.loc, .slice co x.code.length cc, .slice ko x.cats.length kc] 33)))
          clear hmx h1 h2
          go_wp2
          go_ret
          exact ⟨ret_bool (rfl), HBE.out⟩
        · have ih2 : ¬ (32 < (x.cats.length : Int)) := by omega
          by_cases h3 : 200 < x.code.length
          · have ih3 : 200 < (x.code.length : Int) := by omega
            have hmx : x.many = true := by unfold Mth.many; simp [h1, h2, h3]
            rw [hmx] at HTS
            have hR : R = true := by rw [HMA.out, any_take HTS.out]; simp
            subst hR
            have HBE := Lib.hid (HB0.out.trans ((below_alloc HBW.out _).mono HB0.out.size) : Below w.heap.size w (wr.alloc (.cells #[.string (S x.name), .slice po x.params.length pc, .string (S x.res), .bool x.abs, .int .i64 x.loc, .slice co x.code.length cc, .slice ko x.cats.length kc] 33)))
            clear hmx h1 h2 h3
            go_wp2
            go_ret
            exact ⟨ret_bool (rfl), HBE.out⟩
          · have ih3 : ¬ (200 < (x.code.length : Int)) := by omega
            by_cases h4 : 64 < x.loc
            · have ih4 : 64 < x.loc := by omega
              have hmx : x.many = true := by unfold Mth.many; simp [h1, h2, h3, h4]
              rw [hmx] at HTS
              have hR : R = true := by rw [HMA.out, any_take HTS.out]; simp
              subst hR
              have HBE := Lib.hid (HB0.out.trans ((below_alloc HBW.out _).mono HB0.out.size) : Below w.heap.size w (wr.alloc (.cells #[.string (S x.name), .slice po x.params.length pc, .string (S x.res), .bool x.abs, .int .i64 x.loc, .slice co x.code.length cc, .slice ko x.cats.length kc] 33)))
              clear hmx h1 h2 h3 h4
              go_wp2
              go_ret
              exact ⟨ret_bool (rfl), HBE.out⟩
            · have ih4 : ¬ (64 < x.loc) := by omega
              have hmx : x.many = false := by unfold Mth.many; simp [h1, h2, h3, h4]
              rw [hmx] at HTS
              clear hmx h1 h2 h3 h4
              go_wp2
              go_roundw
              case rel => exact ⟨k + 1, by omega, by go_num, HTS.out, below_alloc HBW.out _⟩
              case measure => simp [intOf]; omega
    · obtain rfl : k = n := by omega
      have hfa : c.mths.any Mth.many = false := by
        have h := HA.out
        rw [HN.out, List.take_of_length_le (Nat.le_refl _)] at h
        exact h
      rw [hfa, Bool.or_false] at HMA
      have hbE : Below w.heap.size w wr := HB0.out.trans (HBW.out.mono HB0.out.size)
      have HBE := Lib.hid hbE
      have c2 := (HBX.out.below HBW.out).cell 2 rfl
      have c6 := (HBX.out.below HBW.out).cell 6 rfl
      clear hfa hbE
      by_cases h1 : 32 < c.like.length
      · have ih1 : 32 < (c.like.length : Int) := by omega
        obtain rfl : R = true := by rw [HMA.out]; simp [h1]
        clear h1
        go_wp2
        go_ret
        exact ⟨ret_bool (rfl), HBE.out⟩
      · have ih1 : ¬ (32 < (c.like.length : Int)) := by omega
        by_cases h2 : 32 < c.flds.length
        · have ih2 : 32 < (c.flds.length : Int) := by omega
          obtain rfl : R = true := by rw [HMA.out]; simp [h1, h2]
          clear h1 h2
          go_wp2
          go_ret
          exact ⟨ret_bool (rfl), HBE.out⟩
        · have ih2 : ¬ (32 < (c.flds.length : Int)) := by omega
          by_cases h3 : 32 < k
          · have ih3 : 32 < (k : Int) := by omega
            obtain rfl : R = true := by rw [HMA.out]; simp [h1, h2, h3]
            clear h1 h2 h3
            go_wp2
            go_ret
            exact ⟨ret_bool (rfl), HBE.out⟩
          · have ih3 : ¬ (32 < (k : Int)) := by omega
            obtain rfl : R = false := by rw [HMA.out]; simp [h1, h2, h3]
            clear h1 h2 h3
            go_wp2
            go_ret
            exact ⟨ret_bool (rfl), HBE.out⟩
end Go.Proofs.YtpincofjopmaaaaGreatDoor
namespace Go.Proofs.YtpincofjopmaaaaGreatDoor
open Go.RowKit
/-- The operators' names as cells. -/
def nameCells : List Value := opTab.map fun x => .string (S x.1)
theorem nameCells_at (k : Nat) (hk : k < 42) : nameCells[k]? = some (.string (S (nameAt k))) := by
  have hl : k < opTab.length := by rw [opTab_len]; exact hk
  rw [nameCells, List.getElem?_map, List.getElem?_eq_getElem hl, nameAt_get k hl]
  rfl
set_option maxHeartbeats 2000000 in
set_option maxRecDepth 100000 in
theorem refops_any (w : World) :
    Calls Tryz.prog 292 #[] w fun e w' => e = .returned (.slice (some ⟨w.heap.size, 0, none⟩) 42 42) ∧ w.alloc (.cells nameCells.toArray 9) = w' := by
  go_enter Tryz.func292, Tryz.ntmps292
  go_wp2
  go_ret
  exact ⟨rfl, congrArg (fun a => w.alloc (.cells a 9)) (by kernel_rfl)⟩
theorem names_cell (w : World) (k : Nat) (hk : k < 42) : (w.alloc (.cells nameCells.toArray 9)).cell? ⟨w.heap.size, k, none⟩ = some (.string (S (nameAt k))) := by
  have h := nameCells_at k hk
  have hn := heap_alloc_new w (.cells nameCells.toArray 9)
  unfold World.cell?
  rw [hn]
  simpa using h
set_option maxHeartbeats 2000000 in
set_option maxRecDepth 100000 in
theorem refnumber_any (s : List UInt8) (w : World) :
    Calls Tryz.prog 281 #[.string (S s)] w fun e w' => e = .returned (.int .i64 (if idx s < 42 then (idx s : Int) else -1)) ∧ Below w.heap.size w w' := by
  obtain ⟨N, hN⟩ : ∃ N, N = idx s := ⟨_, rfl⟩
  rw [← hN]
  have hlo : ∀ j, j < N → (nameAt j == s) = false := fun j hj => idx_before s j (by omega)
  have hat : N < 42 → (nameAt N == s) = true := fun h => by rw [hN]; exact idx_at s (by omega)
  have hle : N ≤ 42 := by rw [hN]; exact idx_le s
  have HLO := Lib.hid hlo
  have HAT := Lib.hid hat
  clear hlo hat hN
  go_enter Tryz.func281, Tryz.ntmps281
  go_wp2_with (go_at_call 292; refine (refops_any _).mono ?_; rintro e w' ⟨rfl, rfl⟩)
  have hcell : Hid (∀ k, k < 42 → (w.alloc (.cells nameCells.toArray 9)).cell? ⟨w.heap.size, k, none⟩ = some (.string (S (nameAt k)))) := Lib.hid (fun k hk => names_cell w k hk)
  have hbel : Below w.heap.size w (w.alloc (.cells nameCells.toArray 9)) := (Below.refl _ w).alloc (Nat.le_refl _) _
  generalize w.alloc (.cells nameCells.toArray 9) = w1 at hcell hbel ⊢
  have HB := Lib.hid hbel
  clear hbel
  go_loopw [4] (fun v4 wr => wr = w1 ∧ ∃ k : Nat, k ≤ N ∧ v4 = .int .i64 k) (fun v4 _ => 42 - (intOf v4).toNat)
  case atStart => exact ⟨rfl, 0, Nat.zero_le _, rfl⟩
  case round =>
    obtain ⟨rfl, k, hk, rfl⟩ := hrel
    by_cases hlt : k < 42
    · have hlt' : (k : Int) < 42 := by omega
      have hk0 : (0 : Int) ≤ k := by omega
      have hc := hcell.out k hlt
      have es := S_toList s
      have en := S_toList (nameAt k)
      by_cases hkn : k < N
      · have hne := HLO.out k hkn
        go_wp2
        go_roundw
        case rel => exact ⟨trivial, k + 1, by omega, by go_num⟩
        case measure => simp [intOf]; omega
      · obtain rfl : k = N := by omega
        have hne := HAT.out hlt
        go_wp2
        go_ret
        exact ⟨rfl, HB.out⟩
    · obtain rfl : k = 42 := by omega
      obtain rfl : N = 42 := by omega
      go_wp2
      go_ret
      exact ⟨rfl, HB.out⟩
/-- What an operator takes: 0 nothing, 1 a number, 2 a text; -1: there is none. -/
def refT (op : List UInt8) : Int := if idx op < 42 then (if hasAt (idx op) = 1 then 1 else if 2 ≤ hasAt (idx op) then 2 else 0) else -1
def thirteen : List (List UInt8) := [[105, 110, 116], [108, 111, 97, 100], [115, 116, 111, 114, 101], [106, 117, 109, 112], [98, 114, 97, 110, 99, 104], [119, 111, 114, 100], [110, 101, 119], [103, 101, 116], [112, 117, 116], [99, 97, 108, 108], [97, 114, 114, 97, 121], [105, 115], [99, 97, 115, 116]]
theorem rest_zero : ∀ k : Fin 42, thirteen.contains (nameAt k.val) = false → hasAt k.val = 0 := by decide
theorem refT_rest (op : List UInt8) (h : thirteen.contains op = false) : refT op = if idx op < 42 then 0 else -1 := by
  unfold refT
  by_cases hN : idx op < 42
  · have e := beq_iff_eq.1 (idx_at op hN)
    have hz := rest_zero ⟨idx op, hN⟩ (by show thirteen.contains (nameAt (idx op)) = false; rw [e]; exact h)
    have hz' : hasAt (idx op) = 0 := hz
    rw [if_pos hN, if_pos hN, hz']
    rfl
  · rw [if_neg hN, if_neg hN]
set_option maxHeartbeats 2000000 in
set_option maxRecDepth 100000 in
theorem reftakes_any (op : List UInt8) (w : World) :
    Calls Tryz.prog 269 #[.string (S op)] w fun e w' => e = .returned (.int .i64 (refT op)) ∧ Below w.heap.size w w' := by
  have es := S_toList op
  by_cases h0 : op = [105, 110, 116]
  · subst h0
    rw [show refT [105, 110, 116] = 1 from by decide]
    go_enter Tryz.func269, Tryz.ntmps269
    go_wp2
    go_ret
    exact ⟨rfl, Below.refl _ _⟩
  have e0 : (op == [105, 110, 116]) = false := by rw [beq_eq_false_iff_ne]; exact h0
  by_cases h1 : op = [108, 111, 97, 100]
  · subst h1
    rw [show refT [108, 111, 97, 100] = 1 from by decide]
    go_enter Tryz.func269, Tryz.ntmps269
    go_wp2
    go_ret
    exact ⟨rfl, Below.refl _ _⟩
  have e1 : (op == [108, 111, 97, 100]) = false := by rw [beq_eq_false_iff_ne]; exact h1
  by_cases h2 : op = [115, 116, 111, 114, 101]
  · subst h2
    rw [show refT [115, 116, 111, 114, 101] = 1 from by decide]
    go_enter Tryz.func269, Tryz.ntmps269
    go_wp2
    go_ret
    exact ⟨rfl, Below.refl _ _⟩
  have e2 : (op == [115, 116, 111, 114, 101]) = false := by rw [beq_eq_false_iff_ne]; exact h2
  by_cases h3 : op = [106, 117, 109, 112]
  · subst h3
    rw [show refT [106, 117, 109, 112] = 1 from by decide]
    go_enter Tryz.func269, Tryz.ntmps269
    go_wp2
    go_ret
    exact ⟨rfl, Below.refl _ _⟩
  have e3 : (op == [106, 117, 109, 112]) = false := by rw [beq_eq_false_iff_ne]; exact h3
  by_cases h4 : op = [98, 114, 97, 110, 99, 104]
  · subst h4
    rw [show refT [98, 114, 97, 110, 99, 104] = 1 from by decide]
    go_enter Tryz.func269, Tryz.ntmps269
    go_wp2
    go_ret
    exact ⟨rfl, Below.refl _ _⟩
  have e4 : (op == [98, 114, 97, 110, 99, 104]) = false := by rw [beq_eq_false_iff_ne]; exact h4
  by_cases h5 : op = [119, 111, 114, 100]
  · subst h5
    rw [show refT [119, 111, 114, 100] = 2 from by decide]
    go_enter Tryz.func269, Tryz.ntmps269
    go_wp2
    go_ret
    exact ⟨rfl, Below.refl _ _⟩
  have e5 : (op == [119, 111, 114, 100]) = false := by rw [beq_eq_false_iff_ne]; exact h5
  by_cases h6 : op = [110, 101, 119]
  · subst h6
    rw [show refT [110, 101, 119] = 2 from by decide]
    go_enter Tryz.func269, Tryz.ntmps269
    go_wp2
    go_ret
    exact ⟨rfl, Below.refl _ _⟩
  have e6 : (op == [110, 101, 119]) = false := by rw [beq_eq_false_iff_ne]; exact h6
  by_cases h7 : op = [103, 101, 116]
  · subst h7
    rw [show refT [103, 101, 116] = 2 from by decide]
    go_enter Tryz.func269, Tryz.ntmps269
    go_wp2
    go_ret
    exact ⟨rfl, Below.refl _ _⟩
  have e7 : (op == [103, 101, 116]) = false := by rw [beq_eq_false_iff_ne]; exact h7
  by_cases h8 : op = [112, 117, 116]
  · subst h8
    rw [show refT [112, 117, 116] = 2 from by decide]
    go_enter Tryz.func269, Tryz.ntmps269
    go_wp2
    go_ret
    exact ⟨rfl, Below.refl _ _⟩
  have e8 : (op == [112, 117, 116]) = false := by rw [beq_eq_false_iff_ne]; exact h8
  by_cases h9 : op = [99, 97, 108, 108]
  · subst h9
    rw [show refT [99, 97, 108, 108] = 2 from by decide]
    go_enter Tryz.func269, Tryz.ntmps269
    go_wp2
    go_ret
    exact ⟨rfl, Below.refl _ _⟩
  have e9 : (op == [99, 97, 108, 108]) = false := by rw [beq_eq_false_iff_ne]; exact h9
  by_cases h10 : op = [97, 114, 114, 97, 121]
  · subst h10
    rw [show refT [97, 114, 114, 97, 121] = 2 from by decide]
    go_enter Tryz.func269, Tryz.ntmps269
    go_wp2
    go_ret
    exact ⟨rfl, Below.refl _ _⟩
  have e10 : (op == [97, 114, 114, 97, 121]) = false := by rw [beq_eq_false_iff_ne]; exact h10
  by_cases h11 : op = [105, 115]
  · subst h11
    rw [show refT [105, 115] = 2 from by decide]
    go_enter Tryz.func269, Tryz.ntmps269
    go_wp2
    go_ret
    exact ⟨rfl, Below.refl _ _⟩
  have e11 : (op == [105, 115]) = false := by rw [beq_eq_false_iff_ne]; exact h11
  by_cases h12 : op = [99, 97, 115, 116]
  · subst h12
    rw [show refT [99, 97, 115, 116] = 2 from by decide]
    go_enter Tryz.func269, Tryz.ntmps269
    go_wp2
    go_ret
    exact ⟨rfl, Below.refl _ _⟩
  have e12 : (op == [99, 97, 115, 116]) = false := by rw [beq_eq_false_iff_ne]; exact h12
  have hr : thirteen.contains op = false := by
    simp only [thirteen, List.contains_cons, List.contains_nil, e0, e1, e2, e3, e4, e5, e6, e7, e8, e9, e10, e11, e12, Bool.or_false]
  rw [refT_rest op hr]
  have HN := Lib.hid (refnumber_any op w)
  by_cases hN : idx op < 42
  · rw [if_pos hN] at HN ⊢
    generalize idx op = q at HN
    have hq : ¬ ((q : Int) < 0) := by omega
    clear hr hN h0 h1 h2 h3 h4 h5 h6 h7 h8 h9 h10 h11 h12
    go_enter Tryz.func269, Tryz.ntmps269
    go_wp2_with (go_at_call 281; refine HN.out.mono ?_; rintro e w' ⟨rfl, hb⟩)
    go_ret
    exact ⟨rfl, hb⟩
  · rw [if_neg hN] at HN ⊢
    clear hr hN h0 h1 h2 h3 h4 h5 h6 h7 h8 h9 h10 h11 h12
    go_enter Tryz.func269, Tryz.ntmps269
    go_wp2_with (go_at_call 281; refine HN.out.mono ?_; rintro e w' ⟨rfl, hb⟩)
    go_ret
    exact ⟨rfl, hb⟩
end Go.Proofs.YtpincofjopmaaaaGreatDoor
namespace Go.Proofs.YtpincofjopmaaaaGreatDoor
open Go.RowKit
theorem ret_str {a b : ByteArray} (h : a = b) : Ending.returned (.string a) = .returned (.string b) := by rw [h]
theorem elemL_not {l : List UInt8} (h : ¬ (rightB l = true ∧ 1 ≤ deepN l)) : elemL l = [] := by unfold elemL; rw [if_neg h]
theorem dot_stop {l : List UInt8} {k : Nat} (hk : k < l.length) (h : k ≤ dotAt l) (hc : l.getD k 0 = 46) : dotAt l = k := by
  rcases Nat.lt_or_ge k (dotAt l) with h1 | h1
  · have := List.not_of_lt_findIdx h1
    simp [List.getD, List.getElem?_eq_getElem hk] at hc
    simp [hc] at this
  · omega
theorem dot_next {l : List UInt8} {k : Nat} (hk : k < l.length) (h : k ≤ dotAt l) (hc : l.getD k 0 ≠ 46) : k + 1 ≤ dotAt l := by
  rcases Nat.lt_or_ge k (dotAt l) with h1 | h1
  · omega
  · have e : dotAt l = k := by omega
    exfalso
    have hlt : dotAt l < l.length := by omega
    have := List.findIdx_getElem (xs := l) (p := fun c => c == 46) (w := hlt)
    apply hc
    simp only [beq_iff_eq] at this
    rw [List.getD, List.getElem?_eq_getElem hk, Option.getD_some]
    rw [← this]
    congr 1
    exact e.symm
/-- What the document's Parts answers. -/
def RefParts (l : List UInt8) (w : World) (e : Ending) (w' : World) : Prop :=
  (∃ q, w' = w.drewN q) ∧ ((dotAt l < l.length ∧ e = .returned (.tuple #[.string (S (l.take (dotAt l))), .string (S (l.drop (dotAt l + 1))), .bool (partsB l)])) ∨
    (l.length ≤ dotAt l ∧ e = .returned (.tuple #[.string ⟨#[]⟩, .string ⟨#[]⟩, .bool false])))
set_option maxHeartbeats 1000000 in
set_option maxRecDepth 100000 in
theorem refparts_any (l : List UInt8) (w : World) (hlim : l.length ≤ 9223372036854775807) :
    Calls Tryz.prog 271 #[.string (S l)] w (RefParts l w) := by
  have hsz : ((S l).size : Int) = (l.length : Int) := by rw [S_size]
  obtain ⟨n, hn⟩ : ∃ n, n = l.length := ⟨_, rfl⟩
  rw [← hn] at hsz
  have HN := Lib.hid hn
  have hn1 : n ≤ 9223372036854775807 := by omega
  have HC : Hid (∀ k w, Calls Tryz.prog 111 #[.string (S (l.take k))] w fun e w' => e = .returned (.bool (classB (l.take k))) ∧ w = w') := fun k w => refclass_any (l.take k) w (by rw [List.length_take]; omega)
  have HMB : Hid (∀ k w, Calls Tryz.prog 112 #[.string (S (l.drop k))] w fun e w' => e = .returned (.bool (memberB (l.drop k))) ∧ w = w') := fun k w => refmember_any (l.drop k) w (by rw [List.length_drop]; omega)
  clear hn hlim
  go_enter Tryz.func271, Tryz.ntmps271
  go_wp2
  go_loop [5] (fun v5 => ∃ k : Nat, k ≤ n ∧ v5 = .int .i64 k ∧ k ≤ dotAt l) (fun v5 => n - (intOf v5).toNat)
  case atStart => exact ⟨0, Nat.zero_le _, rfl, Nat.zero_le _⟩
  case round =>
    obtain ⟨k, hk, rfl, hdot⟩ := hrel
    by_cases hlt : k < n
    · have hkl : k < l.length := by have := HN.out; omega
      obtain ⟨x, hx⟩ : ∃ x, x = l.getD k 0 := ⟨_, rfl⟩
      obtain ⟨c, hc⟩ : ∃ c, c = x.toNat := ⟨_, rfl⟩
      have hget : ∀ h : k < (S l).size, ((S l)[k]'h).toNat = c := fun h => by rw [hc, hx, S_at l k hkl h]
      by_cases hp : x = 46
      · have hd : dotAt l = k := dot_stop hkl hdot (by rw [← hx]; exact hp)
        obtain rfl : c = 46 := by rw [hc, hp]; rfl
        have HD := Lib.hid hd
        clear hd hx hc hp hdot
        have hcut1 := S_take l k
        have hcut2 := S_drop l (k + 1)
        have w1 : IntKind.i64.wrap ((k : Int) + 1) = (k : Int) + 1 := IntWalk.i64_in _ (by omega)
        have w2 : ((k : Int) + 1).toNat = k + 1 := by omega
        have w3 : (0 : Int) ≤ (k : Int) + 1 := by omega
        have w4 : (k : Int) + 1 ≤ (n : Int) := by omega
        have w5 : (0 : Int) ≤ (k : Int) := by omega
        have w6 : (k : Int) ≤ (n : Int) := by omega
        have HK := Lib.hid hkl
        clear hkl
        have HPT := Lib.hid (show partsB l = (classB (l.take k) && memberB (l.drop (k + 1))) by unfold partsB; rw [HD.out, decide_eq_true HK.out, Bool.true_and])
        have hdl : dotAt l < l.length := by rw [HD.out]; exact HK.out
        have HCK := HC.out k
        have HMK := Lib.hid (HMB.out (k + 1))
        cases hcl : classB (l.take k) with
        | true =>
          rw [hcl] at HCK
          rw [hcl, Bool.true_and] at HPT
          have HCT := Lib.hid HCK
          clear hcl HCK HC HMB
          generalize memberB (l.drop (k + 1)) = b at HMK HPT
          go_wp2_with fail
          go_quiet ((first | (go_at_call 111; exact Calls.quiet_of_same ((HCT.out _).mono (fun _ _ h => ⟨h.1, h.2.symm⟩))) | (go_at_call 112; exact Calls.quiet_of_same ((HMK.out _).mono (fun _ _ h => ⟨h.1, h.2.symm⟩)))))
          go_wp2
          go_ret3
          exact ⟨⟨nq, rfl⟩, .inl ⟨hdl, by rw [HD.out, HPT.out]; rfl⟩⟩
        | false =>
          rw [hcl] at HCK
          rw [hcl, Bool.false_and] at HPT
          have HCT := Lib.hid HCK
          clear hcl HCK HC HMB
          go_wp2_with fail
          go_quiet ((first | (go_at_call 111; exact Calls.quiet_of_same ((HCT.out _).mono (fun _ _ h => ⟨h.1, h.2.symm⟩))) | (go_at_call 112; exact Calls.quiet_of_same ((HMK.out _).mono (fun _ _ h => ⟨h.1, h.2.symm⟩)))))
          go_wp2
          go_ret3
          exact ⟨⟨nq, rfl⟩, .inl ⟨hdl, by rw [HD.out, HPT.out]; rfl⟩⟩
      · have hd := dot_next hkl hdot (by rw [← hx]; exact hp)
        have hcb : ((c : Int) == 46) = false := by
          rw [beq_eq_false_iff_ne]
          intro h
          apply hp
          apply UInt8.toNat_inj.1
          rw [← hc]
          show c = 46
          omega
        clear hx hc hp
        go_wp2
        go_round
        case rel => exact ⟨k + 1, by omega, by go_num, hd⟩
        case measure => simp [intOf]; omega
    · have hge : l.length ≤ dotAt l := by have := HN.out; omega
      go_wp2
      go_ret3
      exact ⟨⟨0, rfl⟩, .inr ⟨hge, rfl⟩⟩
end Go.Proofs.YtpincofjopmaaaaGreatDoor
