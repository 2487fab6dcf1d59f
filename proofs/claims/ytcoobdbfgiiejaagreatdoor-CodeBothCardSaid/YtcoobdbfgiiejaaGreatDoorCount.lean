/-
  The contract of package pack's Count at a reader with no error.
  Conditions: the reader holds its bytes (at most 2^47), stands within them; the most is an int.
-/
import Derived.Test.YtcoobdbfgiiejaaGreatDoorRefNum
import Derived.Test.YtcoobdbfgiiejaaGreatDoorNumPos
namespace Go.Proofs.YtcoobdbfgiiejaaGreatDoor
open Go.RowKit
set_option maxHeartbeats 2000000 in
set_option maxRecDepth 100000 in
theorem rcount_num (b : Nat) (v : Value) (l : List UInt8) (i E V K : Nat) (most : Int) (w : World) (h : RdAt w b v l i 0) (hR : numFrom 0 0 (l.drop i) = (E, V, K)) (hE : E ≠ 0) :
    Calls Tryz.prog 42 #[.pointer (some ⟨b, 0, none⟩), .int .i64 most] w (Got b v l i E (.int .i64 0) w) := by
  have hlt := lt_of_block h.blk
  have hal := (h.alloc (.cells #[.pointer (some ⟨b, 0, none⟩)] 38)).alloc (.cells #[.int .i64 most] 3)
  have c2 : ((w.alloc (.cells #[.pointer (some ⟨b, 0, none⟩)] 38)).alloc (.cells #[.int .i64 most] 3)).cell? ⟨b, 2, none⟩ = some (.int .i64 0) := hal.c2
  have c1 := hal.c1
  have hle := h.le
  have hn := number_any b v l i 0 _ hal
  rw [hR] at hn
  have HN := Lib.hid hn
  have hb : ((E : Int) != 0) = true := by rw [bne_iff_ne]; omega
  clear h hn hR hal
  go_enter Tryz.func42, Tryz.ntmps42
  go_wp2_with (first | (go_at_call 46; refine HN.out.mono ?_; rintro e w1 ⟨rfl, hon, j, hrd, _⟩; have d1 := hrd.c1; have d2 := hrd.c2; have f1 := hrd.free 1; have f2 := hrd.free 2) | go_in)
  go_ret
  obtain ⟨h1, h2⟩ := hrd.failed ((((Only.refl _ _).alloc _).alloc _).trans hon) i E hle
  exact ⟨rfl, h1, h2⟩
set_option maxHeartbeats 2000000 in
set_option maxRecDepth 100000 in
theorem rcount_ok (b : Nat) (v : Value) (l : List UInt8) (i V K m : Nat) (w : World) (h : RdAt w b v l i 0) (hm : m ≤ 9223372036854775807) (hR : numFrom 0 0 (l.drop i) = (0, V, K)) (hV : V ≤ m) (hL : i + K + V ≤ l.length) :
    Calls Tryz.prog 42 #[.pointer (some ⟨b, 0, none⟩), .int .i64 (m : Nat)] w (Got b v l (i + K) 0 (.int .i64 (V : Nat)) w) := by
  have hlt := lt_of_block h.blk
  have hal := (h.alloc (.cells #[.pointer (some ⟨b, 0, none⟩)] 38)).alloc (.cells #[.int .i64 (m : Nat)] 3)
  have c2 : ((w.alloc (.cells #[.pointer (some ⟨b, 0, none⟩)] 38)).alloc (.cells #[.int .i64 (m : Nat)] 3)).cell? ⟨b, 2, none⟩ = some (.int .i64 0) := hal.c2
  have c1 := hal.c1
  have hsm := h.small
  have hn := number_any b v l i 0 _ hal
  rw [hR] at hn
  have HN := Lib.hid hn
  obtain ⟨p, hp⟩ : ∃ p, p = i + K := ⟨_, rfl⟩
  rw [← hp] at hL ⊢
  have HP := Lib.hid hp
  have hz1 : decide ((m : Int) < (V : Int)) = false := by simp; omega
  have hz2 : decide ((l.length : Int) - (p : Int) < (V : Int)) = false := by simp; omega
  have hz3 : (0 : Int) ≤ (l.length : Int) - (p : Int) := by omega
  clear h hn hR hal hp
  go_enter Tryz.func42, Tryz.ntmps42
  go_wp2_with (first | (go_at_call 46; refine HN.out.mono ?_; rintro e w1 ⟨rfl, hon, j, hrd, hj⟩; obtain rfl : p = j := HP.out.trans (hj rfl).symm; clear hj) | (go_at_call 47; refine (left_any b v l p 0 _ hrd).mono ?_; rintro e w2 ⟨rfl, q, rfl⟩) | go_in)
  go_ret
  exact ⟨rfl, ((((Only.refl _ _).alloc _).alloc _).trans hon).drewN _, hrd.drewN _⟩
set_option maxHeartbeats 2000000 in
set_option maxRecDepth 100000 in
theorem rcount_neg (b : Nat) (v : Value) (l : List UInt8) (i V K : Nat) (most : Int) (w : World) (h : RdAt w b v l i 0) (hR : numFrom 0 0 (l.drop i) = (0, V, K)) (hneg : most < 0) :
    Calls Tryz.prog 42 #[.pointer (some ⟨b, 0, none⟩), .int .i64 most] w (Got b v l i 12 (.int .i64 0) w) := by
  have hlt := lt_of_block h.blk
  have hal := (h.alloc (.cells #[.pointer (some ⟨b, 0, none⟩)] 38)).alloc (.cells #[.int .i64 most] 3)
  have c2 : ((w.alloc (.cells #[.pointer (some ⟨b, 0, none⟩)] 38)).alloc (.cells #[.int .i64 most] 3)).cell? ⟨b, 2, none⟩ = some (.int .i64 0) := hal.c2
  have c1 := hal.c1
  have hle := h.le
  have hn := number_any b v l i 0 _ hal
  rw [hR] at hn
  have HN := Lib.hid hn
  clear h hn hR hal
  go_enter Tryz.func42, Tryz.ntmps42
  go_wp2_with (first | (go_at_call 46; refine HN.out.mono ?_; rintro e w1 ⟨rfl, hon, j, hrd, _⟩; have d1 := hrd.c1; have d2 := hrd.c2; have f1 := hrd.free 1; have f2 := hrd.free 2) | go_in)
  go_ret
  obtain ⟨h1, h2⟩ := hrd.failed ((((Only.refl _ _).alloc _).alloc _).trans hon) i 12 hle
  exact ⟨rfl, h1, h2⟩
set_option maxHeartbeats 2000000 in
set_option maxRecDepth 100000 in
theorem rcount_over (b : Nat) (v : Value) (l : List UInt8) (i V K m : Nat) (w : World) (h : RdAt w b v l i 0) (hm : m ≤ 9223372036854775807) (hR : numFrom 0 0 (l.drop i) = (0, V, K)) (hV : m < V) :
    Calls Tryz.prog 42 #[.pointer (some ⟨b, 0, none⟩), .int .i64 (m : Nat)] w (Got b v l i 12 (.int .i64 0) w) := by
  have hlt := lt_of_block h.blk
  have hal := (h.alloc (.cells #[.pointer (some ⟨b, 0, none⟩)] 38)).alloc (.cells #[.int .i64 (m : Nat)] 3)
  have c2 : ((w.alloc (.cells #[.pointer (some ⟨b, 0, none⟩)] 38)).alloc (.cells #[.int .i64 (m : Nat)] 3)).cell? ⟨b, 2, none⟩ = some (.int .i64 0) := hal.c2
  have c1 := hal.c1
  have hle := h.le
  have hn := number_any b v l i 0 _ hal
  rw [hR] at hn
  have HN := Lib.hid hn
  have hz1 : (m : Int) < (V : Int) := by omega
  clear h hn hR hal
  go_enter Tryz.func42, Tryz.ntmps42
  go_wp2_with (first | (go_at_call 46; refine HN.out.mono ?_; rintro e w1 ⟨rfl, hon, j, hrd, _⟩; have d1 := hrd.c1; have d2 := hrd.c2; have f1 := hrd.free 1; have f2 := hrd.free 2) | go_in)
  go_ret
  obtain ⟨h1, h2⟩ := hrd.failed ((((Only.refl _ _).alloc _).alloc _).trans hon) i 12 hle
  exact ⟨rfl, h1, h2⟩
set_option maxHeartbeats 2000000 in
set_option maxRecDepth 100000 in
theorem rcount_more (b : Nat) (v : Value) (l : List UInt8) (i V K m : Nat) (w : World) (h : RdAt w b v l i 0) (hm : m ≤ 9223372036854775807) (hR : numFrom 0 0 (l.drop i) = (0, V, K)) (hV : V ≤ m) (hL : l.length < i + K + V) :
    Calls Tryz.prog 42 #[.pointer (some ⟨b, 0, none⟩), .int .i64 (m : Nat)] w (Got b v l i 12 (.int .i64 0) w) := by
  have hlt := lt_of_block h.blk
  have hal := (h.alloc (.cells #[.pointer (some ⟨b, 0, none⟩)] 38)).alloc (.cells #[.int .i64 (m : Nat)] 3)
  have c2 : ((w.alloc (.cells #[.pointer (some ⟨b, 0, none⟩)] 38)).alloc (.cells #[.int .i64 (m : Nat)] 3)).cell? ⟨b, 2, none⟩ = some (.int .i64 0) := hal.c2
  have c1 := hal.c1
  have hle := h.le
  have hsm := h.small
  have hn := number_any b v l i 0 _ hal
  have hkl := numFrom_pos (l.drop i) 0 0
  rw [hR] at hn hkl
  have hkl2 := (hkl rfl).2
  rw [List.length_drop] at hkl2
  simp only [] at hkl2
  have HN := Lib.hid hn
  obtain ⟨p, hp⟩ : ∃ p, p = i + K := ⟨_, rfl⟩
  rw [← hp] at hL
  have HP := Lib.hid hp
  have hz1 : decide ((m : Int) < (V : Int)) = false := by simp; omega
  have hz2 : (l.length : Int) - (p : Int) < (V : Int) := by omega
  have hz3 : (0 : Int) ≤ (l.length : Int) - (p : Int) := by omega
  clear h hn hR hal hp hkl hkl2
  go_enter Tryz.func42, Tryz.ntmps42
  go_wp2_with (first | (go_at_call 46; refine HN.out.mono ?_; rintro e w1 ⟨rfl, hon, j, hrd, hj⟩; obtain rfl : p = j := HP.out.trans (hj rfl).symm; clear hj) | (go_at_call 47; refine (left_any b v l p 0 _ hrd).mono ?_; rintro e w2 ⟨rfl, q, rfl⟩; have hrd2 := hrd.drewN q; have d1 := hrd2.c1; have d2 := hrd2.c2; have f1 := hrd2.free 1; have f2 := hrd2.free 2) | go_in)
  go_ret
  obtain ⟨h1, h2⟩ := hrd2.failed (((((Only.refl _ _).alloc _).alloc _).trans hon).drewN q) i 12 hle
  exact ⟨rfl, h1, h2⟩
end Go.Proofs.YtcoobdbfgiiejaaGreatDoor
