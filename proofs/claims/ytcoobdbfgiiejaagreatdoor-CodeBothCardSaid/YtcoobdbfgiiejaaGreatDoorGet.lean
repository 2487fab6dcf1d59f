/-
  The contracts of package pack's reader, Count, and of the laws' get: a field that is read, by its kind.
  Conditions: the reader holds its bytes (at most 2^47), stands within them.
-/
import Derived.Test.YtcoobdbfgiiejaaGreatDoorWS
namespace Go.Proofs.YtcoobdbfgiiejaaGreatDoor
open Go.RowKit
set_option maxHeartbeats 2000000 in
set_option maxRecDepth 100000 in
theorem rcount_stop (b : Nat) (v : Value) (l : List UInt8) (i err : Nat) (most : Int) (w : World) (h : RdAt w b v l i err) (he : err ≠ 0) :
    Calls Tryz.prog 42 #[.pointer (some ⟨b, 0, none⟩), .int .i64 most] w (Got b v l i err (.int .i64 0) w) := by
  have hlt := lt_of_block h.blk
  have c2 := ((h.alloc (.cells #[.pointer (some ⟨b, 0, none⟩)] 38)).alloc (.cells #[.int .i64 most] 3)).c2
  have hb : ((err : Int) != 0) = true := by rw [bne_iff_ne]; omega
  have HH := Lib.hid h
  clear h
  go_enter Tryz.func42, Tryz.ntmps42
  go_wp2_with go_in
  go_ret
  exact ⟨rfl, ((Only.refl _ _).alloc _).alloc _, (HH.out.alloc _).alloc _⟩
theorem get_done {w w1 w' : World} {b : Nat} {v : Value} {l : List UInt8} {i err i' err' : Nat} {o1 o2 : Obj} (h0 : RdAt w b v l i err) (hon : Only (fun k => k = b) ((w.alloc o1).alloc o2) w1) (hrd : RdAt w1 b v l i' err') (ho : Only (fun k => k = w.heap.size ∨ k = w.heap.size + 1) w1 w') :
    Only (fun k => k = b) w w' ∧ RdAt w' b v l i' err' := by
  have hlt := lt_of_block h0.blk
  refine ⟨((((Only.refl (fun k => k = b) w).alloc o1).alloc o2).trans hon).then ho (fun i hi q => by omega), hrd.keep ho (by omega) (fun g hg q => ?_)⟩
  have := (h0.row.lt g hg).2
  omega
theorem two_blocks {w w1 : World} {b : Nat} {o1 o2 : Obj} (hb : b < w.heap.size) (hon : Only (fun k => k = b) ((w.alloc o1).alloc o2) w1) : w1.heap[w.heap.size]? = some o1 ∧ w1.heap[w.heap.size + 1]? = some o2 := by
  constructor
  · refine hon.heap ?_ (by omega)
    rw [Below.heap_alloc _ _ _ (by simp)]
    exact heap_alloc_new w o1
  · refine hon.heap ?_ (by omega)
    have := heap_alloc_new (w.alloc o1) o2
    simpa using this
theorem cells6 {w : World} {b t : Nat} {x0 x1 x2 x3 x4 x5 : Value} (h : w.heap[b]? = some (.cells #[x0, x1, x2, x3, x4, x5] t (0, 0))) : w.cell? ⟨b, 0, none⟩ = some x0 ∧ w.cell? ⟨b, 1, none⟩ = some x1 ∧ w.cell? ⟨b, 2, none⟩ = some x2 ∧ w.cell? ⟨b, 3, none⟩ = some x3 ∧ w.cell? ⟨b, 4, none⟩ = some x4 ∧ w.cell? ⟨b, 5, none⟩ = some x5 := by simp [World.cell?, h]
theorem free6 {w : World} {b t : Nat} {cs : Array Value} (h : w.heap[b]? = some (.cells cs t (0, 0))) : ∀ o, w.frozen? ⟨b, o, none⟩ = false := by intro o; simp [World.frozen?, h]
/-- A field that is read. -/
def fieldVal (kind most : Int) (n : Nat) (i : Int) (yes : Bool) (s : List UInt8) : Value := .agg #[.int .i64 kind, .int .i64 most, .int .u64 n, .int .i64 i, .bool yes, .string (S s)]
end Go.Proofs.YtcoobdbfgiiejaaGreatDoor
