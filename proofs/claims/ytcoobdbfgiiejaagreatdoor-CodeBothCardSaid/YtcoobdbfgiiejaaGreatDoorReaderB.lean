/-
  The contracts of package pack's reader, the outer part: Read, Num, Int, Flag, Err, End.
  Conditions: the reader holds its bytes (at most 2^47), stands within them.
-/
import Derived.Test.YtcoobdbfgiiejaaGreatDoorReader
namespace Go.Proofs.YtcoobdbfgiiejaaGreatDoor
open Go.RowKit
/-- A reader behind a call that answers x. -/
def Got (b : Nat) (v : Value) (l : List UInt8) (i err : Nat) (x : Value) (w : World) (e : Ending) (w' : World) : Prop :=
  e = .returned x ∧ Only (fun k => k = b) w w' ∧ RdAt w' b v l i err

set_option maxHeartbeats 1000000 in
set_option maxRecDepth 100000 in
theorem read_any (sv : Value) (l : List UInt8) (w : World) (hs : SrcIs w sv l) (hlim : l.length ≤ 140737488355328) :
    Calls Tryz.prog 16 #[sv] w fun e w' => ∃ b v, e = .returned (.pointer (some ⟨b, 0, none⟩)) ∧ Below w.heap.size w w' ∧ RdAt w' b v l 0 0 ∧ w.heap.size ≤ b ∧ (∀ g, v.ownBlock = some g → w.heap.size ≤ g) := by
  have HC := Lib.hid (clone_any sv l w hs hlim)
  clear hs
  go_enter Tryz.func16, Tryz.ntmps16
  go_wp2_with (go_at_call 41; refine HC.out.mono ?_; rintro e w1 ⟨v1, rfl, hr, hb, hv⟩; obtain ⟨ao, m, c, rfl⟩ := row_shape hr)
  go_ret
  exact ⟨w1.heap.size, _, rfl, hb.alloc hb.size _, ⟨heap_alloc_new w1 _, hr.alloc _, Nat.zero_le _, hlim⟩, hb.size, hv⟩

set_option maxHeartbeats 1000000 in
set_option maxRecDepth 100000 in
theorem err_ok (b : Nat) (v : Value) (l : List UInt8) (i : Nat) (w : World) (h : RdAt w b v l i 0) :
    Calls Tryz.prog 44 #[.pointer (some ⟨b, 0, none⟩)] w fun e w' => e = .returned (.tuple #[.int .i64 0, .int .i64 0]) ∧ w = w' := by
  have c2 : w.cell? ⟨b, 2, none⟩ = some (.int .i64 0) := h.c2
  clear h
  go_enter Tryz.func44, Tryz.ntmps44
  go_wp2
  go_ret2
  exact ⟨rfl, rfl⟩
set_option maxHeartbeats 1000000 in
set_option maxRecDepth 100000 in
theorem err_bad (b : Nat) (v : Value) (l : List UInt8) (i err : Nat) (w : World) (h : RdAt w b v l i err) (he : err ≠ 0) :
    Calls Tryz.prog 44 #[.pointer (some ⟨b, 0, none⟩)] w fun e w' => e = .returned (.tuple #[.int .i64 i, .int .i64 err]) ∧ ∃ q, w' = w.drewN q := by
  have c2 := h.c2
  have c1 := h.c1
  have hb : ((err : Int) == 0) = false := beq_eq_false_iff_ne.2 (by omega)
  clear h
  go_enter Tryz.func44, Tryz.ntmps44
  go_wp2
  go_quiet (fail)
  go_wp2
  go_ret2
  exact ⟨rfl, _, rfl⟩
set_option maxHeartbeats 1000000 in
set_option maxRecDepth 100000 in
theorem end_bad (b : Nat) (v : Value) (l : List UInt8) (i err : Nat) (w : World) (h : RdAt w b v l i err) (he : err ≠ 0) :
    Calls Tryz.prog 20 #[.pointer (some ⟨b, 0, none⟩)] w fun e w' => e = .returned (.tuple #[.int .i64 i, .int .i64 err]) ∧ ∃ q, w' = w.drewN q := by
  have c2 := h.c2
  have hb : ((err : Int) == 0) = false := beq_eq_false_iff_ne.2 (by omega)
  have HE := Lib.hid (err_bad b v l i err w h he)
  clear h
  go_enter Tryz.func20, Tryz.ntmps20
  go_wp2_with (go_at_call 44; refine HE.out.mono ?_; rintro e w1 ⟨rfl, q, rfl⟩)
  go_ret2
  exact ⟨rfl, _, rfl⟩
set_option maxHeartbeats 1000000 in
set_option maxRecDepth 100000 in
theorem end_ok (b : Nat) (v : Value) (l : List UInt8) (w : World) (h : RdAt w b v l l.length 0) :
    Calls Tryz.prog 20 #[.pointer (some ⟨b, 0, none⟩)] w fun e w' => e = .returned (.tuple #[.int .i64 0, .int .i64 0]) ∧ ∃ q, w' = w.drewN q := by
  have c2 : w.cell? ⟨b, 2, none⟩ = some (.int .i64 0) := h.c2
  have HL := Lib.hid (left_any b v l l.length 0 w h)
  have HE : Hid (∀ q, Calls Tryz.prog 44 #[.pointer (some ⟨b, 0, none⟩)] (w.drewN q) _) := fun q => err_ok b v l l.length (w.drewN q) (h.drewN q)
  have hz : decide ((0 : Int) < (l.length : Int) - (l.length : Int)) = false := by simp
  clear h
  go_enter Tryz.func20, Tryz.ntmps20
  go_wp2_with (first | (go_at_call 47; refine HL.out.mono ?_; rintro e w1 ⟨rfl, q, rfl⟩) | (go_at_call 44; refine (HE.out _).mono ?_; rintro e w1 ⟨rfl, rfl⟩))
  go_ret2
  exact ⟨rfl, _, rfl⟩
set_option maxHeartbeats 1000000 in
set_option maxRecDepth 100000 in
theorem end_more (b : Nat) (v : Value) (l : List UInt8) (i : Nat) (w : World) (h : RdAt w b v l i 0) (hi : i < l.length) :
    Calls Tryz.prog 20 #[.pointer (some ⟨b, 0, none⟩)] w fun e w' => e = .returned (.tuple #[.int .i64 i, .int .i64 13]) ∧ ∃ q, w' = w.drewN q := by
  have c2 : w.cell? ⟨b, 2, none⟩ = some (.int .i64 0) := h.c2
  have c1 := h.c1
  have HL := Lib.hid (left_any b v l i 0 w h)
  have hz : (0 : Int) < (l.length : Int) - (i : Int) := by omega
  clear h
  go_enter Tryz.func20, Tryz.ntmps20
  go_wp2_with (first | (go_at_call 47; refine HL.out.mono ?_; rintro e w1 ⟨rfl, q, rfl⟩))
  go_ret2
  exact ⟨rfl, _, rfl⟩

set_option maxHeartbeats 1000000 in
set_option maxRecDepth 100000 in
theorem rnum_stop (b : Nat) (v : Value) (l : List UInt8) (i err : Nat) (w : World) (h : RdAt w b v l i err) (he : err ≠ 0) :
    Calls Tryz.prog 19 #[.pointer (some ⟨b, 0, none⟩)] w (Got b v l i err (.int .u64 0) w) := by
  have c2 := h.c2
  have hb : ((err : Int) != 0) = true := by rw [bne_iff_ne]; omega
  have HH := Lib.hid h
  clear h
  go_enter Tryz.func19, Tryz.ntmps19
  go_wp2_with go_in
  go_ret
  exact ⟨rfl, Only.refl _ _, HH.out⟩
set_option maxHeartbeats 1000000 in
set_option maxRecDepth 100000 in
theorem rnum_ok (b : Nat) (v : Value) (l : List UInt8) (i V K : Nat) (w : World) (h : RdAt w b v l i 0) (hR : numFrom 0 0 (l.drop i) = (0, V, K)) :
    Calls Tryz.prog 19 #[.pointer (some ⟨b, 0, none⟩)] w (Got b v l (i + K) 0 (.int .u64 V) w) := by
  have c2 : w.cell? ⟨b, 2, none⟩ = some (.int .i64 0) := h.c2
  have c1 := h.c1
  have hn := number_any b v l i 0 w h
  rw [hR] at hn
  have HN := Lib.hid hn
  clear h hn hR
  go_enter Tryz.func19, Tryz.ntmps19
  go_wp2_with (first | (go_at_call 46; refine HN.out.mono ?_; rintro e w1 ⟨rfl, hon, j, hrd, hj⟩; obtain rfl := hj rfl) | go_in)
  go_ret
  exact ⟨rfl, hon, hrd⟩

theorem numFrom_lt : ∀ (t : List UInt8) (k acc : Nat), k ≤ 9 → acc < 128 ^ k → (numFrom k acc t).2.1 < 18446744073709551616
  | [], k, acc, _, _ => by simp [numFrom]
  | x :: t, k, acc, hk, ha => by
    by_cases h1 : (0 < k ∧ x.toNat = 0) ∨ (k = 9 ∧ 1 < x.toNat)
    · rw [numFrom_bad h1]; exact (by decide : (0 : Nat) < 18446744073709551616)
    · by_cases h2 : x.toNat < 128
      · rw [numFrom_done h1 h2]
        show acc + x.toNat % 128 * 128 ^ k < _
        by_cases h9 : k = 9
        · subst h9
          have h3 : x.toNat % 128 * 128 ^ 9 ≤ 1 * 128 ^ 9 := Nat.mul_le_mul (by omega) (Nat.le_refl _)
          have h4 : acc + x.toNat % 128 * 128 ^ 9 < 128 ^ 9 + 1 * 128 ^ 9 := Nat.add_lt_add_of_lt_of_le ha h3
          exact Nat.lt_of_lt_of_le h4 (by decide)
        · have h3 := orv_lt k acc x.toNat ha
          have h4 : 128 ^ (k + 1) ≤ 128 ^ 9 := Nat.pow_le_pow_right (by decide) (by omega)
          exact Nat.lt_of_lt_of_le h3 (Nat.le_trans h4 (by decide))
      · rw [numFrom_more h1 h2]
        exact numFrom_lt t (k + 1) _ (by have := x.toNat_lt; omega) (orv_lt k acc x.toNat ha)
theorem num_lt {l : List UInt8} {E V K : Nat} (h : numFrom 0 0 l = (E, V, K)) : V < 18446744073709551616 := by
  have := numFrom_lt l 0 0 (by omega) (by decide)
  rw [h] at this
  exact this
theorem numFrom_err : ∀ (t : List UInt8) (k acc : Nat), (numFrom k acc t).1 ≠ 0 → (numFrom k acc t).2.1 = 0
  | [], k, acc, _ => by simp [numFrom]
  | x :: t, k, acc, he => by
    by_cases h1 : (0 < k ∧ x.toNat = 0) ∨ (k = 9 ∧ 1 < x.toNat)
    · rw [numFrom_bad h1]
    · by_cases h2 : x.toNat < 128
      · rw [numFrom_done h1 h2] at he; exact absurd rfl he
      · rw [numFrom_more h1 h2] at he ⊢
        exact numFrom_err t (k + 1) _ he
theorem num_err {l : List UInt8} {E V K : Nat} (h : numFrom 0 0 l = (E, V, K)) (hE : E ≠ 0) : V = 0 := by
  have := numFrom_err l 0 0
  rw [h] at this
  exact this hE
theorem RdAt.alloc {w : World} {b : Nat} {v : Value} {l : List UInt8} {i err : Nat} (h : RdAt w b v l i err) (o : Obj) : RdAt (w.alloc o) b v l i err :=
  h.keep ((Only.refl (fun _ => False) w).alloc o) id (fun _ _ => id)
/-- What an item that fails leaves. -/
theorem RdAt.failed {w0 w : World} {b : Nat} {v : Value} {l : List UInt8} {j : Nat} (h : RdAt w b v l j 0) (ho : Only (fun k => k = b) w0 w) (i E : Nat) (hi : i ≤ l.length) :
    Only (fun k => k = b) w0 ((w.setCell ⟨b, 1, none⟩ (.int .i64 i)).setCell ⟨b, 2, none⟩ (.int .i64 E)) ∧ RdAt ((w.setCell ⟨b, 1, none⟩ (.int .i64 i)).setCell ⟨b, 2, none⟩ (.int .i64 E)) b v l i E :=
  ⟨(ho.setCell (p := ⟨b, 1, none⟩) rfl _).setCell (p := ⟨b, 2, none⟩) rfl _, (h.setAt i hi).setErr E⟩
set_option maxHeartbeats 1000000 in
set_option maxRecDepth 100000 in
theorem rnum_bad (b : Nat) (v : Value) (l : List UInt8) (i E V K : Nat) (w : World) (h : RdAt w b v l i 0) (hR : numFrom 0 0 (l.drop i) = (E, V, K)) (hE : E ≠ 0) :
    Calls Tryz.prog 19 #[.pointer (some ⟨b, 0, none⟩)] w (Got b v l i E (.int .u64 0) w) := by
  have c2 : w.cell? ⟨b, 2, none⟩ = some (.int .i64 0) := h.c2
  have c1 := h.c1
  have hle := h.le
  have hn := number_any b v l i 0 w h
  rw [hR] at hn
  have HN := Lib.hid hn
  have hb : ((E : Int) != 0) = true := by rw [bne_iff_ne]; omega
  clear h hn hR
  go_enter Tryz.func19, Tryz.ntmps19
  go_wp2_with (first | (go_at_call 46; refine HN.out.mono ?_; rintro e w1 ⟨rfl, hon, j, hrd, _⟩; have d1 := hrd.c1; have d2 := hrd.c2; have f1 := hrd.free 1; have f2 := hrd.free 2) | go_in)
  go_ret
  obtain ⟨h1, h2⟩ := hrd.failed hon i E hle
  exact ⟨rfl, h1, h2⟩

set_option maxHeartbeats 1000000 in
set_option maxRecDepth 100000 in
theorem rint_stop (b : Nat) (v : Value) (l : List UInt8) (i err : Nat) (w : World) (h : RdAt w b v l i err) (he : err ≠ 0) :
    Calls Tryz.prog 70 #[.pointer (some ⟨b, 0, none⟩)] w (Got b v l i err (.int .i64 0) w) := by
  have hlt := lt_of_block h.blk
  have c2 : (w.alloc (.cells #[.pointer (some ⟨b, 0, none⟩)] 38)).cell? ⟨b, 2, none⟩ = some (.int .i64 err) := (h.alloc _).c2
  have hb : ((err : Int) != 0) = true := by rw [bne_iff_ne]; omega
  have HH := Lib.hid h
  clear h
  go_enter Tryz.func70, Tryz.ntmps70
  go_wp2_with go_in
  go_ret
  exact ⟨rfl, (Only.refl _ _).alloc _, HH.out.alloc _⟩
set_option maxHeartbeats 1000000 in
set_option maxRecDepth 100000 in
theorem rint_ok (b : Nat) (v : Value) (l : List UInt8) (i V K : Nat) (w : World) (h : RdAt w b v l i 0) (hR : numFrom 0 0 (l.drop i) = (0, V, K)) :
    Calls Tryz.prog 70 #[.pointer (some ⟨b, 0, none⟩)] w (Got b v l (i + K) 0 (.int .i64 (zag V)) w) := by
  have hlt := lt_of_block h.blk
  have hal := h.alloc (.cells #[.pointer (some ⟨b, 0, none⟩)] 38)
  have c2 : (w.alloc (.cells #[.pointer (some ⟨b, 0, none⟩)] 38)).cell? ⟨b, 2, none⟩ = some (.int .i64 0) := hal.c2
  have c1 := hal.c1
  have hn := number_any b v l i 0 _ hal
  rw [hR] at hn
  have HN := Lib.hid hn
  have HV := Lib.hid (num_lt hR)
  clear h hn hR hal
  go_enter Tryz.func70, Tryz.ntmps70
  go_wp2_with (first | (go_at_call 46; refine HN.out.mono ?_; rintro e w1 ⟨rfl, hon, j, hrd, hj⟩; obtain rfl := hj rfl) | (go_at_call 90; refine (zag_any _ _ HV.out).mono ?_; rintro e w2 ⟨rfl, rfl⟩) | go_in)
  go_ret
  exact ⟨rfl, ((Only.refl _ _).alloc _).trans hon, hrd⟩
set_option maxHeartbeats 1000000 in
set_option maxRecDepth 100000 in
theorem rint_bad (b : Nat) (v : Value) (l : List UInt8) (i E V K : Nat) (w : World) (h : RdAt w b v l i 0) (hR : numFrom 0 0 (l.drop i) = (E, V, K)) (hE : E ≠ 0) :
    Calls Tryz.prog 70 #[.pointer (some ⟨b, 0, none⟩)] w (Got b v l i E (.int .i64 0) w) := by
  have hlt := lt_of_block h.blk
  have hal := h.alloc (.cells #[.pointer (some ⟨b, 0, none⟩)] 38)
  have c2 : (w.alloc (.cells #[.pointer (some ⟨b, 0, none⟩)] 38)).cell? ⟨b, 2, none⟩ = some (.int .i64 0) := hal.c2
  have c1 := hal.c1
  have hle := h.le
  have hn := number_any b v l i 0 _ hal
  rw [hR] at hn
  have HN := Lib.hid hn
  have HV := Lib.hid (num_lt hR)
  have hb : ((E : Int) != 0) = true := by rw [bne_iff_ne]; omega
  clear h hn hR hal
  go_enter Tryz.func70, Tryz.ntmps70
  go_wp2_with (first | (go_at_call 46; refine HN.out.mono ?_; rintro e w1 ⟨rfl, hon, j, hrd, _⟩; have d1 := hrd.c1; have d2 := hrd.c2; have f1 := hrd.free 1; have f2 := hrd.free 2) | (go_at_call 90; refine (zag_any _ _ HV.out).mono ?_; rintro e w2 ⟨rfl, rfl⟩) | go_in)
  go_ret
  obtain ⟨h1, h2⟩ := hrd.failed (((Only.refl _ _).alloc _).trans hon) i E hle
  exact ⟨rfl, h1, h2⟩

end Go.Proofs.YtcoobdbfgiiejaaGreatDoor
