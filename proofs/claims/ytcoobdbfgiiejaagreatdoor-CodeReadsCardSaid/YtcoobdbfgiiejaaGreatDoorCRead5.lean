/-
  What holds between two rounds of package code's Read.
-/
import Derived.Test.YtcoobdbfgiiejaaGreatDoorCRead4
namespace Go.Proofs.YtcoobdbfgiiejaaGreatDoor
open Go.RowKit Go.Shelf
theorem flatten_lines : ∀ (k : Nat) (l : List UInt8), l.length ≤ k → (linesL l).flatten = l
  | 0, l, h => by
    obtain rfl := List.length_eq_zero_iff.1 (Nat.le_zero.1 h)
    rfl
  | k + 1, l, h => by
    by_cases hl : l = []
    · subst hl; rfl
    · have := restLf_lt hl
      rw [linesL_cons hl, List.flatten_cons, flatten_lines k _ (by omega), line_rest]
/-- Three boxes (the results, l), and the row of l. -/
structure RI (w W : World) (v : Value) (m : List Ins) : Prop where
  b0 : Boxed W w.heap.size 22 (.slice none 0 0)
  b1 : Boxed W (w.heap.size + 1) 26 (.int .i64 0)
  b2 : Boxed W (w.heap.size + 2) 22 v
  row : W.ownsRow w.heap.size 50 3 v m.length (insCells m)
  bel : Below w.heap.size w W
namespace RI
variable {w W W' : World} {v : Value} {m : List Ins}
theorem owned (h : RI w W v m) {r : Nat} {o : Obj} (hr : W.heap[r]? = some o) (ho : o.isCells = false) : v.ownBlock = none ∨ v.ownBlock ≠ some r := by
  rcases h.row.2 with ⟨rfl, _⟩ | ⟨g, cap, cur, rfl, _, hgb, _⟩
  · exact .inl rfl
  · refine .inr fun e => ?_
    obtain rfl : g = r := by simpa [Value.ownBlock] using e
    rw [hgb] at hr
    cases hr
    cases ho
theorem box_ne {b r : Nat} {t : TypeId} {u : Value} (hb : Boxed W b t u) {o : Obj} (hr : W.heap[r]? = some o) (ho : o.isCells = false) : some b ≠ some r := by
  intro e
  cases e
  rw [show W.heap[b]? = _ from hb] at hr
  cases hr
  cases ho
theorem grown (h : RI w W v m) {row : Option Nat} (hg : W.grownBy W' row) (hr : ∀ r, row = some r → w.heap.size ≤ r ∧ ∃ o : Obj, W.heap[r]? = some o ∧ o.isCells = false) : RI w W' v m := by
  cases row with
  | none => exact ⟨h.b0.kept hg (by simp), h.b1.kept hg (by simp), h.b2.kept hg (by simp), h.row.kept hg (by cases v.ownBlock <;> simp), h.bel.grown hg h.bel.size (fun _ e => by cases e)⟩
  | some r =>
    obtain ⟨hle, _, ho, hc⟩ := hr r rfl
    exact ⟨h.b0.kept hg (box_ne h.b0 ho hc), h.b1.kept hg (box_ne h.b1 ho hc), h.b2.kept hg (box_ne h.b2 ho hc), h.row.kept hg (h.owned ho hc), h.bel.grown hg h.bel.size (fun k e => by cases e; exact hle)⟩
theorem below (h : RI w W v m) (hb : Below W.heap.size W W') : RI w W' v m :=
  ⟨(hb.block _ h.b0.lt).trans h.b0, (hb.block _ h.b1.lt).trans h.b1, (hb.block _ h.b2.lt).trans h.b2, (Only.ofBelow (S := fun _ => False) hb).row h.row (fun _ _ => id), h.bel.trans (hb.mono h.bel.size)⟩
theorem state (h : RI w W v m) {u : Value} (hb : Boxed W (w.heap.size + 3) 9 u) (u' : Value) : RI w (W.setCell ⟨w.heap.size + 3, 0, none⟩ u') v m :=
  ⟨h.b0.other (by omega) _, h.b1.other (by omega) _, h.b2.other (by omega) _, h.row.kept (grownBy_setCell' W _ u') (.inr (hb.not_row (by decide) h.row).symm), h.bel.setCell (p := ⟨w.heap.size + 3, 0, none⟩) (by simp) _⟩
theorem src (h : RI w W v m) : IR w W v m := by
  refine ⟨⟨h.row.1, ?_⟩, fun g hg => (h.row.lt g hg).1⟩
  rcases h.row.2 with h0 | ⟨g, cap, cur, e, _, h3⟩
  · exact .inl h0
  · exact .inr ⟨g, cap, cur, e, Nat.zero_le _, h3⟩
end RI
theorem keepsFrom_below {n : Nat} {W W' : World} (hb : Below W.heap.size W W') : KeepsFrom n W W' :=
  ⟨hb.size, fun k _ _ hk _ => (hb.block k (Array.getElem?_eq_some_iff.1 hk).1).trans hk⟩
/-- What has been read is what the lines that came say. -/
structure RJ (w : World) (pre : List (List UInt8)) (W : World) : Prop where
  ex : ∃ v m, RI w W v m ∧ m.map Ins.text = pre ∧ ∀ x ∈ m, x.ok ∧ x.e = 0
/-- A line was none's. -/
structure RX (w : World) (pre : List (List UInt8)) (W : World) : Prop where
  b0 : Boxed W w.heap.size 22 (.slice none 0 0)
  b1 : Boxed W (w.heap.size + 1) 26 (.int .i64 42)
  bel : Below w.heap.size w W
  bad : ∃ x ∈ pre, ∀ y : Ins, y.ok → y.e = 0 → y.text ≠ x
theorem rj_own (w : World) (B : Nat) (hB : w.heap.size ≤ B) : OwnFrom B (RJ w) := by
  rintro s X Y row ⟨v, m, h, h1, h2⟩ hg hr
  exact ⟨v, m, h.grown hg (fun r e => ⟨Nat.le_trans hB (hr r e).1, (hr r e).2⟩), h1, h2⟩
theorem rx_own (w : World) (B : Nat) (hB : w.heap.size ≤ B) : OwnFrom B (RX w) := by
  rintro s X Y row ⟨h0, h1, h2, h3⟩ hg hr
  have ne : ∀ {b : Nat} {t : TypeId} {u : Value}, Boxed X b t u → some b ≠ row := fun hb e => by
    obtain ⟨_, o, ho, hc⟩ := hr _ e.symm
    exact RI.box_ne hb ho hc rfl
  exact ⟨h0.kept hg (ne h0), h1.kept hg (ne h1), h2.grown hg h2.size (fun k e => Nat.le_trans hB (hr k e).1), h3⟩
theorem rj_start (w W : World) (h0 : Boxed W w.heap.size 22 (.slice none 0 0)) (h1 : Boxed W (w.heap.size + 1) 26 (.int .i64 0)) (h2 : Boxed W (w.heap.size + 2) 22 (.slice none 0 0)) (hb : Below w.heap.size w W) : RJ w [] W :=
  ⟨_, [], ⟨h0, h1, h2, World.ownsRow_nil _ _ _ _, hb⟩, rfl, fun x hx => by simp at hx⟩
end Go.Proofs.YtcoobdbfgiiejaaGreatDoor
