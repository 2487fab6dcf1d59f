/-
  Helpers for PackReads: the asks that came in, the blocks of the two fields, and the reader beside them.
  Conditions: none.
-/
import Derived.Test.YtfnhobikochfeaaDoorPair
import Derived.Deep.RegionHeld3
import Derived.Deep.RegionWith
namespace Go.Proofs.YtfnhobikochfeaaDoor
open Go.RowKit
/-- What came in reads as these pairs of numbers: a slice, nil or not. -/
structure ArgPairs (w : World) (ao : Option Addr) (cap : Nat) (ns : List (Int × Int)) : Prop where
  nil : ao = none → ns = [] ∧ cap = 0
  le : ns.length ≤ cap
  most : cap ≤ 9223372036854775807
  ok : ∀ y ∈ ns, (-9223372036854775808 ≤ y.1 ∧ y.1 ≤ 9223372036854775807) ∧ (-9223372036854775808 ≤ y.2 ∧ y.2 ≤ 9223372036854775807)
  cells : ∀ a, ao = some a → ∀ j y, ns[j]? = some y → w.cell? (a.add (j * 2)) = some (.int .i64 y.1) ∧ w.cell? (a.add (j * 2 + 1)) = some (.int .i64 y.2)
theorem ArgPairs.below {w w' : World} {ao : Option Addr} {cap : Nat} {ns : List (Int × Int)} (h : ArgPairs w ao cap ns) (hb : Below w.heap.size w w') : ArgPairs w' ao cap ns :=
  ⟨h.nil, h.le, h.most, h.ok, fun a ha j y hj => ⟨(Only.ofBelow (S := fun _ => False) hb).cell (h.cells a ha j y hj).1 id, (Only.ofBelow (S := fun _ => False) hb).cell (h.cells a ha j y hj).2 id⟩⟩
/-- A block that was just made, and the reader beside it. -/
theorem want_block {w wr : World} {br : Nat} {vr : Value} {l : List UInt8} {i err : Nat} (r : RS w wr.drew br vr l i err) (o : Obj) {P : World → Prop}
    (h : ∀ w5, RS w w5 br vr l i err → w5.heap[wr.heap.size]? = some o → w.heap.size ≤ wr.heap.size → br < wr.heap.size → (∀ g, vr.ownBlock = some g → g < wr.heap.size) → P w5) : P (wr.drew.alloc o) :=
  h _ (r.keep ((Below.refl _ _).alloc (Nat.le_refl _) _)) (heap_alloc_new wr.drew o) r.bel.size (lt_of_block r.rd.blk) (fun g hg => (r.rd.row.lt g hg).2)
theorem pre_block {w5 w6 : World} {o : Obj} (h : Below (w5.drew.alloc o).heap.size (w5.drew.alloc o) w6) : w6.heap[w5.heap.size]? = some o := by
  rw [h.block _ (by simp)]
  exact heap_alloc_new w5.drew o
theorem pre_keep {w5 w6 : World} {bw : Nat} {o o' : Obj} (q : w5.heap[bw]? = some o) (h : Below (w5.drew.alloc o').heap.size (w5.drew.alloc o') w6) : w6.heap[bw]? = some o :=
  (Only.ofBelow (S := fun _ => False) h).heap (((Only.refl (fun _ => False) w5).drew.alloc o').heap q id) id
theorem pre_keep' {w5 w6 : World} {bw : Nat} {o : Obj} (q : w5.heap[bw]? = some o) (h : Below w5.drew.heap.size w5.drew w6) : w6.heap[bw]? = some o :=
  (Only.ofBelow (S := fun _ => False) h).heap q id
theorem heap_set_ne {w : World} {b o : Nat} {u : Value} {k : Nat} {x : Obj} (h : w.heap[k]? = some x) (hk : k ≠ b) : (w.setCell ⟨b, o, none⟩ u).heap[k]? = some x := by
  rw [Below.heap_setCell w ⟨b, o, none⟩ u k hk]; exact h
/-- Six cells of a block are written. -/
theorem set6 {w w7 : World} {br : Nat} {vr : Value} {l : List UInt8} {i err bf t : Nat} {c0 c1 c2 c3 c4 c5 : Value} (r : RS w w7 br vr l i err) (q : w7.heap[bf]? = some (.cells #[c0, c1, c2, c3, c4, c5] t (0, 0))) (hbf : w.heap.size ≤ bf) (hne : br ≠ bf) (hown : ∀ g, vr.ownBlock = some g → g ≠ bf)
    {x0 x1 x2 x3 x4 x5 : Value} {P : World → Prop} (h : ∀ w8, RS w w8 br vr l i err → w8.heap[bf]? = some (.cells #[x0, x1, x2, x3, x4, x5] t (0, 0)) → (∀ k x, k ≠ bf → w7.heap[k]? = some x → w8.heap[k]? = some x) → P w8) :
    P ((((((w7.setCell ⟨bf, 0, none⟩ x0).setCell ⟨bf, 1, none⟩ x1).setCell ⟨bf, 2, none⟩ x2).setCell ⟨bf, 3, none⟩ x3).setCell ⟨bf, 4, none⟩ x4).setCell ⟨bf, 5, none⟩ x5) := by
  have ho : Only (fun k => k = bf) w7 ((((((w7.setCell ⟨bf, 0, none⟩ x0).setCell ⟨bf, 1, none⟩ x1).setCell ⟨bf, 2, none⟩ x2).setCell ⟨bf, 3, none⟩ x3).setCell ⟨bf, 4, none⟩ x4).setCell ⟨bf, 5, none⟩ x5) :=
    ((((((Only.refl (fun k => k = bf) w7).setCell (p := ⟨bf, 0, none⟩) rfl _).setCell (p := ⟨bf, 1, none⟩) rfl _).setCell (p := ⟨bf, 2, none⟩) rfl _).setCell (p := ⟨bf, 3, none⟩) rfl _).setCell (p := ⟨bf, 4, none⟩) rfl _).setCell (p := ⟨bf, 5, none⟩) rfl _
  refine h _ ⟨r.rd.keep ho hne hown, r.lo, r.own, r.bel.trans (ho.below r.bel.size (fun i hi => by omega))⟩ ?_ (fun k x hk hx => ho.heap hx hk)
  have := heap_setCell_self (o := 5) (u := x5) (heap_setCell_self (o := 4) (u := x4) (heap_setCell_self (o := 3) (u := x3) (heap_setCell_self (o := 2) (u := x2) (heap_setCell_self (o := 1) (u := x1) (heap_setCell_self (o := 0) (u := x0) q)))))
  simpa using this
/-- The reader, and the two fields beside it. -/
structure St (w w7 : World) (br : Nat) (vr : Value) (l : List UInt8) (i bw bf : Nat) (ow of : Obj) : Prop where
  rs : RS w w7 br vr l i 0
  qw : w7.heap[bw]? = some ow
  qf : w7.heap[bf]? = some of
theorem way1 {w w6 : World} {br : Nat} {vr : Value} {l : List UInt8} {i bw : Nat} {ow : Obj} (r : RS w w6 br vr l i 0) (q : w6.heap[bw]? = some ow) (o : Obj) {P : World → Prop} (h : ∀ w7, St w w7 br vr l i bw w6.heap.size ow o → P w7) : P (w6.alloc o) :=
  h _ ⟨r.keep ((Below.refl _ _).alloc (Nat.le_refl _) _), ((Only.refl (fun _ => False) w6).alloc o).heap q id, heap_alloc_new w6 o⟩
theorem way2 {w w5 w6 : World} {br : Nat} {vr : Value} {l : List UInt8} {i bw t : Nat} {ow : Obj} {c0 c1 c2 c3 c4 c5 : Value} (r5 : RS w w5.drew br vr l i 0) (hw : bw < w5.heap.size) (r : RS w w6 br vr l i 0) (q : w6.heap[bw]? = some ow) (q2 : w6.heap[w5.heap.size]? = some (.cells #[c0, c1, c2, c3, c4, c5] t (0, 0)))
    {x0 x1 x2 x3 x4 x5 : Value} {P : World → Prop} (h : ∀ w7, St w w7 br vr l i bw w5.heap.size ow (.cells #[x0, x1, x2, x3, x4, x5] t (0, 0)) → P w7) :
    P ((((((w6.setCell ⟨w5.heap.size, 0, none⟩ x0).setCell ⟨w5.heap.size, 1, none⟩ x1).setCell ⟨w5.heap.size, 2, none⟩ x2).setCell ⟨w5.heap.size, 3, none⟩ x3).setCell ⟨w5.heap.size, 4, none⟩ x4).setCell ⟨w5.heap.size, 5, none⟩ x5) :=
  set6 r q2 r5.bel.size (Nat.ne_of_lt (lt_of_block r5.rd.blk)) (fun g hg => Nat.ne_of_lt (r5.rd.row.lt g hg).2) (fun w7 a b c => h w7 ⟨a, c bw ow (Nat.ne_of_lt hw) q, b⟩)
theorem pre_rs {w w5 w6 : World} {br : Nat} {vr : Value} {l : List UInt8} {i err : Nat} {o : Obj} (r : RS w w5.drew br vr l i err) (h : Below (w5.drew.alloc o).heap.size (w5.drew.alloc o) w6) : RS w w6 br vr l i err :=
  (r.keep ((Below.refl _ _).alloc (Nat.le_refl _) o)).keep h
end Go.Proofs.YtfnhobikochfeaaDoor
