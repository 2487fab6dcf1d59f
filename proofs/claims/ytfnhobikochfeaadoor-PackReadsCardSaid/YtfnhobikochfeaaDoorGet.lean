/-
  The contracts of package pack's reader, Count, and of the laws' get: a field that is read, by its kind.
  Conditions: the reader holds its bytes (at most 2^47), stands within them.
-/
import Derived.Test.YtfnhobikochfeaaDoorAwake
namespace Go.Proofs.YtfnhobikochfeaaDoor
open Go.RowKit
set_option maxHeartbeats 2000000 in
set_option maxRecDepth 100000 in
theorem rcount_stop (b : Nat) (v : Value) (l : List UInt8) (i err : Nat) (most : Int) (w : World) (h : RdAt w b v l i err) (he : err ≠ 0) :
    Calls Tryd.prog 40 #[.pointer (some ⟨b, 0, none⟩), .int .i64 most] w (Got b v l i err (.int .i64 0) w) := by
  have hlt := lt_of_block h.blk
  have c2 := ((h.alloc (.cells #[.pointer (some ⟨b, 0, none⟩)] 46)).alloc (.cells #[.int .i64 most] 3)).c2
  have hb : ((err : Int) != 0) = true := by rw [bne_iff_ne]; omega
  have HH := Lib.hid h
  clear h
  go_enter Tryd.func40, Tryd.ntmps40
  go_wp2_with go_in
  go_ret
  exact ⟨rfl, ((Only.refl _ _).alloc _).alloc _, (HH.out.alloc _).alloc _⟩
theorem get_done {w w1 w' : World} {b : Nat} {v : Value} {l : List UInt8} {i err i' err' : Nat} {o1 o2 : Obj} (h0 : RdAt w b v l i err) (hon : Only (fun k => k = b) ((w.alloc o1).alloc o2) w1) (hrd : RdAt w1 b v l i' err') (ho : Only (fun k => k = w.heap.size ∨ k = w.heap.size + 1) w1 w') :
    Only (fun k => k = b) w w' ∧ RdAt w' b v l i' err' := by
  have hlt := lt_of_block h0.blk
  refine ⟨((((Only.refl (fun k => k = b) w).alloc o1).alloc o2).trans hon).then ho (fun i hi q => by omega), hrd.keep ho (by omega) (fun g hg q => ?_)⟩
  have := (h0.row.lt g hg).2
  omega
theorem two_blocks {w w1 : World} {b : Nat} {o1 o2 : Obj} (hb : b < w.heap.size) (hon : Only (fun k => k = b) ((w.alloc o1).alloc o2) w1) : w1.heap[w.heap.size]? = some o1 ∧ w1.heap[w.heap.size + 1]? = some o2 := by
  constructor
  · refine hon.heap ?_ (by omega)
    rw [Below.heap_alloc _ _ _ (by simp)]
    exact heap_alloc_new w o1
  · refine hon.heap ?_ (by omega)
    have := heap_alloc_new (w.alloc o1) o2
    simpa using this
theorem cells6 {w : World} {b t : Nat} {x0 x1 x2 x3 x4 x5 : Value} (h : w.heap[b]? = some (.cells #[x0, x1, x2, x3, x4, x5] t (0, 0))) : w.cell? ⟨b, 0, none⟩ = some x0 ∧ w.cell? ⟨b, 1, none⟩ = some x1 ∧ w.cell? ⟨b, 2, none⟩ = some x2 ∧ w.cell? ⟨b, 3, none⟩ = some x3 ∧ w.cell? ⟨b, 4, none⟩ = some x4 ∧ w.cell? ⟨b, 5, none⟩ = some x5 := by simp [World.cell?, h]
theorem free6 {w : World} {b t : Nat} {cs : Array Value} (h : w.heap[b]? = some (.cells cs t (0, 0))) : ∀ o, w.frozen? ⟨b, o, none⟩ = false := by intro o; simp [World.frozen?, h]
/-- A field that is read. -/
def fieldVal (kind most : Int) (n : Nat) (i : Int) (yes : Bool) (s : List UInt8) : Value := .agg #[.int .i64 kind, .int .i64 most, .int .u64 n, .int .i64 i, .bool yes, .string (S s)]
set_option maxHeartbeats 4000000 in
set_option maxRecDepth 100000 in
theorem get_0 (b : Nat) (v : Value) (l : List UInt8) (i err i' err' : Nat) (X : Nat) (most : Int) (w : World) (h : RdAt w b v l i err)
    (hc : ∀ W, RdAt W b v l i err → Calls Tryd.prog 33 #[.pointer (some ⟨b, 0, none⟩)] W (Got b v l i' err' (.int .u64 X) W)) :
    Calls Tryd.prog 28 #[.pointer (some ⟨b, 0, none⟩), .int .i64 0, .int .i64 most] w (Got b v l i' err' (fieldVal 0 most X 0 false []) w) := by
  have hlt := lt_of_block h.blk
  have HC := Lib.hid hc
  have HH := Lib.hid h
  clear hc h
  go_enter Tryd.func28, Tryd.ntmps28
  go_wp2_with fail
  refine (HC.out _ ((HH.out.alloc _).alloc _)).mono ?_
  rintro e w1 ⟨rfl, hon, hrd⟩
  obtain ⟨q0, q1⟩ := two_blocks hlt hon
  obtain ⟨a0, a1, a2, a3, a4, a5⟩ := cells6 q0
  obtain ⟨d0, d1, d2, d3, d4, d5⟩ := cells6 q1
  have f0 := free6 q0
  have f1 := free6 q1
  clear q0 q1
  go_wp2
  refine bodyPost_ret (v := fieldVal 0 most X 0 false []) (by simp [results, Tryd.results28, go_sem, fieldVal, S, *]) rfl ⟨rfl, get_done HH.out hon hrd ?_⟩
  repeat (refine Only.setCell ?_ (by simp) _)
  exact Only.refl _ _
set_option maxHeartbeats 4000000 in
set_option maxRecDepth 100000 in
theorem get_1 (b : Nat) (v : Value) (l : List UInt8) (i err i' err' : Nat) (X : Int) (most : Int) (w : World) (h : RdAt w b v l i err)
    (hc : ∀ W, RdAt W b v l i err → Calls Tryd.prog 34 #[.pointer (some ⟨b, 0, none⟩)] W (Got b v l i' err' (.int .i64 X) W)) :
    Calls Tryd.prog 28 #[.pointer (some ⟨b, 0, none⟩), .int .i64 1, .int .i64 most] w (Got b v l i' err' (fieldVal 1 most 0 X false []) w) := by
  have hlt := lt_of_block h.blk
  have HC := Lib.hid hc
  have HH := Lib.hid h
  clear hc h
  go_enter Tryd.func28, Tryd.ntmps28
  go_wp2_with fail
  refine (HC.out _ ((HH.out.alloc _).alloc _)).mono ?_
  rintro e w1 ⟨rfl, hon, hrd⟩
  obtain ⟨q0, q1⟩ := two_blocks hlt hon
  obtain ⟨a0, a1, a2, a3, a4, a5⟩ := cells6 q0
  obtain ⟨d0, d1, d2, d3, d4, d5⟩ := cells6 q1
  have f0 := free6 q0
  have f1 := free6 q1
  clear q0 q1
  go_wp2
  refine bodyPost_ret (v := fieldVal 1 most 0 X false []) (by simp [results, Tryd.results28, go_sem, fieldVal, S, *]) rfl ⟨rfl, get_done HH.out hon hrd ?_⟩
  repeat (refine Only.setCell ?_ (by simp) _)
  exact Only.refl _ _
set_option maxHeartbeats 4000000 in
set_option maxRecDepth 100000 in
theorem get_2 (b : Nat) (v : Value) (l : List UInt8) (i err i' err' : Nat) (X : Nat) (most : Int) (w : World) (h : RdAt w b v l i err)
    (hX : X ≤ 140737488355328)
    (hc : ∀ W, RdAt W b v l i err → Calls Tryd.prog 40 #[.pointer (some ⟨b, 0, none⟩), .int .i64 most] W (Got b v l i' err' (.int .i64 (X : Nat)) W)) :
    Calls Tryd.prog 28 #[.pointer (some ⟨b, 0, none⟩), .int .i64 2, .int .i64 most] w (Got b v l i' err' (fieldVal 2 most X 0 false []) w) := by
  have hlt := lt_of_block h.blk
  have HC := Lib.hid hc
  have HH := Lib.hid h
  clear hc h
  go_enter Tryd.func28, Tryd.ntmps28
  go_wp2_with fail
  refine (HC.out _ ((HH.out.alloc _).alloc _)).mono ?_
  rintro e w1 ⟨rfl, hon, hrd⟩
  obtain ⟨q0, q1⟩ := two_blocks hlt hon
  obtain ⟨a0, a1, a2, a3, a4, a5⟩ := cells6 q0
  obtain ⟨d0, d1, d2, d3, d4, d5⟩ := cells6 q1
  have f0 := free6 q0
  have f1 := free6 q1
  clear q0 q1
  go_wp2
  refine bodyPost_ret (v := fieldVal 2 most X 0 false []) (by simp [results, Tryd.results28, go_sem, fieldVal, S, *]) rfl ⟨rfl, get_done HH.out hon hrd ?_⟩
  repeat (refine Only.setCell ?_ (by simp) _)
  exact Only.refl _ _
set_option maxHeartbeats 4000000 in
set_option maxRecDepth 100000 in
theorem get_3 (b : Nat) (v : Value) (l : List UInt8) (i err i' err' : Nat) (X : Bool) (most : Int) (w : World) (h : RdAt w b v l i err)
    (hc : ∀ W, RdAt W b v l i err → Calls Tryd.prog 35 #[.pointer (some ⟨b, 0, none⟩)] W (Got b v l i' err' (.bool X) W)) :
    Calls Tryd.prog 28 #[.pointer (some ⟨b, 0, none⟩), .int .i64 3, .int .i64 most] w (Got b v l i' err' (fieldVal 3 most 0 0 X []) w) := by
  have hlt := lt_of_block h.blk
  have HC := Lib.hid hc
  have HH := Lib.hid h
  clear hc h
  go_enter Tryd.func28, Tryd.ntmps28
  go_wp2_with fail
  refine (HC.out _ ((HH.out.alloc _).alloc _)).mono ?_
  rintro e w1 ⟨rfl, hon, hrd⟩
  obtain ⟨q0, q1⟩ := two_blocks hlt hon
  obtain ⟨a0, a1, a2, a3, a4, a5⟩ := cells6 q0
  obtain ⟨d0, d1, d2, d3, d4, d5⟩ := cells6 q1
  have f0 := free6 q0
  have f1 := free6 q1
  clear q0 q1
  go_wp2
  refine bodyPost_ret (v := fieldVal 3 most 0 0 X []) (by simp [results, Tryd.results28, go_sem, fieldVal, S, *]) rfl ⟨rfl, get_done HH.out hon hrd ?_⟩
  repeat (refine Only.setCell ?_ (by simp) _)
  exact Only.refl _ _
set_option maxHeartbeats 4000000 in
set_option maxRecDepth 100000 in
theorem get_4 (b : Nat) (v : Value) (l : List UInt8) (i err i' err' : Nat) (X : List UInt8) (kind : Int) (most : Int) (w : World) (h : RdAt w b v l i err)
    (k0 : kind ≠ 0) (k1 : kind ≠ 1) (k2 : kind ≠ 2) (k3 : kind ≠ 3)
    (hc : ∀ W, RdAt W b v l i err → Calls Tryd.prog 36 #[.pointer (some ⟨b, 0, none⟩)] W (Got b v l i' err' (.string (S X)) W)) :
    Calls Tryd.prog 28 #[.pointer (some ⟨b, 0, none⟩), .int .i64 kind, .int .i64 most] w (Got b v l i' err' (fieldVal kind most 0 0 false X) w) := by
  have hlt := lt_of_block h.blk
  have HC := Lib.hid hc
  have HH := Lib.hid h
  have b0 : (kind == 0) = false := beq_eq_false_iff_ne.2 k0
  have b1 : (kind == 1) = false := beq_eq_false_iff_ne.2 k1
  have b2 : (kind == 2) = false := beq_eq_false_iff_ne.2 k2
  have b3 : (kind == 3) = false := beq_eq_false_iff_ne.2 k3
  clear k0 k1 k2 k3
  clear hc h
  go_enter Tryd.func28, Tryd.ntmps28
  go_wp2_with fail
  refine (HC.out _ ((HH.out.alloc _).alloc _)).mono ?_
  rintro e w1 ⟨rfl, hon, hrd⟩
  obtain ⟨q0, q1⟩ := two_blocks hlt hon
  obtain ⟨a0, a1, a2, a3, a4, a5⟩ := cells6 q0
  obtain ⟨d0, d1, d2, d3, d4, d5⟩ := cells6 q1
  have f0 := free6 q0
  have f1 := free6 q1
  clear q0 q1
  go_wp2
  refine bodyPost_ret (v := fieldVal kind most 0 0 false X) (by simp [results, Tryd.results28, go_sem, fieldVal, S, *]) rfl ⟨rfl, get_done HH.out hon hrd ?_⟩
  repeat (refine Only.setCell ?_ (by simp) _)
  exact Only.refl _ _
end Go.Proofs.YtfnhobikochfeaaDoor
