/-
  What a writer and a reader of package pack hold in memory.
  Conditions: none; these are definitions and small laws of worlds.
-/
import Derived.Test.YtcoobdbfgiiejaaGreatDoorStr
namespace Go.Proofs.YtcoobdbfgiiejaaGreatDoor
open Go.RowKit

/-- A writer in block b: its one field, v, owns the bytes that were written. -/
structure WrAt (w : World) (b : Nat) (v : Value) (l : List UInt8) : Prop where
  blk : w.heap[b]? = some (.cells #[v] 98 (0, 0))
  row : RowIs w v l
/-- What a writer's call may turn. -/
def WrFoot (b : Nat) (v : Value) (k : Nat) : Prop := k = b ∨ v.ownBlock = some k
/-- A writer behind a call. -/
structure WrGrew (w : World) (b : Nat) (v : Value) (w' : World) (v' : Value) : Prop where
  only : Only (WrFoot b v) w w'
  came : v'.ownBlock = v.ownBlock ∨ ∀ g, v'.ownBlock = some g → w.heap.size ≤ g
theorem WrGrew.refl (w : World) (b : Nat) (v : Value) : WrGrew w b v w v := ⟨Only.refl _ _, .inl rfl⟩
theorem WrGrew.trans {a c d : World} {b : Nat} {u v x : Value} (h : WrGrew a b u c v) (k : WrGrew c b v d x) : WrGrew a b u d x := by
  refine ⟨h.only.then k.only ?_, ?_⟩
  · rintro i hi (e | e)
    · exact .inl e
    · rcases h.came with q | q
      · exact .inr (by rw [← q]; exact e)
      · have := q i e; omega
  · rcases k.came with e | e
    · rw [e]; exact h.came
    · exact .inr fun g hg => Nat.le_trans h.only.size (e g hg)
theorem WrGrew.alloc {a w : World} {b : Nat} {u v : Value} (h : WrGrew a b u w v) (o : Obj) : WrGrew a b u (w.alloc o) v := ⟨h.only.alloc o, h.came⟩
theorem WrGrew.ofGrew {w w' : World} {b : Nat} {v v' : Value} (h : Grew w v w' v') : WrGrew w b v w' v' := ⟨h.only.mono (fun _ _ s => .inr s), h.came⟩
theorem WrGrew.setCell {a w : World} {b : Nat} {u v : Value} (h : WrGrew a b u w v) (x : Value) : WrGrew a b u (w.setCell ⟨b, 0, none⟩ x) v := ⟨h.only.setCell (.inl rfl) x, h.came⟩
theorem WrAt.ne {w : World} {b : Nat} {v : Value} {l : List UInt8} (h : WrAt w b v l) : ∀ g, v.ownBlock = some g → g ≠ b := by
  intro g hg e
  subst e
  rcases h.row.2 with ⟨rfl, _⟩ | ⟨g', cap, cur, rfl, hb, hgg, rest⟩
  · simp [Value.ownBlock] at hg
  · simp [Value.ownBlock] at hg
    subst hg
    have := h.blk
    rw [hgg] at this
    simp at this
theorem WrAt.keep {S : Nat → Prop} {w w' : World} {b : Nat} {v : Value} {l : List UInt8} (h : WrAt w b v l) (ho : Only S w w') (hb : ¬ S b) (hv : ∀ g, v.ownBlock = some g → ¬ S g) : WrAt w' b v l :=
  ⟨ho.heap h.blk hb, ho.row h.row hv⟩
theorem WrAt.alloc {w : World} {b : Nat} {v : Value} {l : List UInt8} (h : WrAt w b v l) (o : Obj) : WrAt (w.alloc o) b v l :=
  h.keep ((Only.refl (fun _ => False) w).alloc o) id (fun _ _ => id)
theorem WrAt.c0 {w : World} {b : Nat} {v : Value} {l : List UInt8} (h : WrAt w b v l) : w.cell? ⟨b, 0, none⟩ = some v := cell_of_one h.blk
theorem WrAt.free {w : World} {b : Nat} {v : Value} {l : List UInt8} (h : WrAt w b v l) : w.frozen? ⟨b, 0, none⟩ = false := free_of_one h.blk
/-- The field takes what grew out of it. -/
theorem WrAt.put {w w' : World} {b : Nat} {v v' : Value} {l l' : List UInt8} (h : WrAt w b v l) (g : Grew w v w' v') (r : RowIs w' v' l') : WrAt (w'.setCell ⟨b, 0, none⟩ v') b v' l' := by
  have hb := g.only.heap h.blk (fun e => h.ne b e rfl)
  refine ⟨one_setCell hb, ownsRow_setCell_other r ?_ _⟩
  intro e
  have hbl := lt_of_block h.blk
  exact h.ne b (g.into b hbl e) rfl

/-- A round of a writer's call: the field takes what grew out of it. -/
theorem WrAt.step {w0 w w' : World} {b : Nat} {u v v' : Value} {l l' : List UInt8} (h : WrAt w b v l) (hg : WrGrew w0 b u w v) (g : Grew w v w' v') (r : RowIs w' v' l') :
    WrAt (w'.setCell ⟨b, 0, none⟩ v') b v' l' ∧ WrGrew w0 b u (w'.setCell ⟨b, 0, none⟩ v') v' := ⟨h.put g r, (hg.trans (.ofGrew g)).setCell _⟩

/-- A reader in block b: its bytes, where it stands, its error. -/
structure RdAt (w : World) (b : Nat) (v : Value) (l : List UInt8) (at_ : Nat) (err : Nat) : Prop where
  blk : w.heap[b]? = some (.cells #[v, .int .i64 at_, .int .i64 err] 76 (0, 0))
  row : RowIs w v l
  le : at_ ≤ l.length
  small : l.length ≤ 140737488355328

theorem RdAt.ne {w : World} {b : Nat} {v : Value} {l : List UInt8} {i err : Nat} (h : RdAt w b v l i err) : ∀ g, v.ownBlock = some g → g ≠ b := by
  intro g hg e
  subst e
  rcases h.row.2 with ⟨rfl, _⟩ | ⟨g', cap, cur, rfl, hb, hgg, rest⟩
  · simp [Value.ownBlock] at hg
  · simp [Value.ownBlock] at hg
    subst hg
    have := h.blk
    rw [hgg] at this
    simp at this
theorem RdAt.c0 {w : World} {b : Nat} {v : Value} {l : List UInt8} {i err : Nat} (h : RdAt w b v l i err) : w.cell? ⟨b, 0, none⟩ = some v := by simp [World.cell?, h.blk]
theorem RdAt.c1 {w : World} {b : Nat} {v : Value} {l : List UInt8} {i err : Nat} (h : RdAt w b v l i err) : w.cell? ⟨b, 1, none⟩ = some (.int .i64 i) := by simp [World.cell?, h.blk]
theorem RdAt.c2 {w : World} {b : Nat} {v : Value} {l : List UInt8} {i err : Nat} (h : RdAt w b v l i err) : w.cell? ⟨b, 2, none⟩ = some (.int .i64 err) := by simp [World.cell?, h.blk]
theorem RdAt.free {w : World} {b : Nat} {v : Value} {l : List UInt8} {i err : Nat} (h : RdAt w b v l i err) (o : Nat) : w.frozen? ⟨b, o, none⟩ = false := by simp [World.frozen?, h.blk]
theorem RdAt.keep {S : Nat → Prop} {w w' : World} {b : Nat} {v : Value} {l : List UInt8} {i err : Nat} (h : RdAt w b v l i err) (ho : Only S w w') (hb : ¬ S b) (hv : ∀ g, v.ownBlock = some g → ¬ S g) : RdAt w' b v l i err :=
  ⟨ho.heap h.blk hb, ho.row h.row hv, h.le, h.small⟩
theorem RdAt.setAt {w : World} {b : Nat} {v : Value} {l : List UInt8} {i err : Nat} (h : RdAt w b v l i err) (j : Nat) (hj : j ≤ l.length) : RdAt (w.setCell ⟨b, 1, none⟩ (.int .i64 j)) b v l j err :=
  ⟨by rw [heap_setCell_self h.blk]; rfl, ((Only.refl (fun k => k = b) w).setCell (p := ⟨b, 1, none⟩) rfl _).row h.row h.ne, hj, h.small⟩
theorem RdAt.setErr {w : World} {b : Nat} {v : Value} {l : List UInt8} {i err : Nat} (h : RdAt w b v l i err) (e : Nat) : RdAt (w.setCell ⟨b, 2, none⟩ (.int .i64 e)) b v l i e :=
  ⟨by rw [heap_setCell_self h.blk]; rfl, ((Only.refl (fun k => k = b) w).setCell (p := ⟨b, 2, none⟩) rfl _).row h.row h.ne, h.le, h.small⟩
end Go.Proofs.YtcoobdbfgiiejaaGreatDoor
