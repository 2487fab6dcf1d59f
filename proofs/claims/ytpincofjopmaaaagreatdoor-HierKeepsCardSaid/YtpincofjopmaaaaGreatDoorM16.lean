/-
  The contract of package code's takeOne: an instruction, or none; the instruction that was written, if the reader stands ahead of one.
  The contract of package code's Take: some instructions, at most 200; those that were written, if the reader stands ahead of them.
  Conditions: as each text of it says.
-/
import Derived.Test.YtpincofjopmaaaaGreatDoorM15
import Derived.Laws.MakeOwn
namespace Go.Proofs.YtpincofjopmaaaaGreatDoor
open Go.RowKit
structure TK (w0 w w' : World) (b : Nat) (v : Value) (l : List UInt8) (i err : Nat) : Prop where
  rs : RS w0 w' b v l i err
  on : Only (fun k => k = b) w w'
  blt : b < w.heap.size
  vlt : ∀ g, v.ownBlock = some g → g < w.heap.size
  lo : w0.heap.size ≤ w.heap.size
theorem TK.below {w0 w w' w'' : World} {b : Nat} {v : Value} {l : List UInt8} {i err : Nat} (h : TK w0 w w' b v l i err) (hb : Below w'.heap.size w' w'') : TK w0 w w'' b v l i err :=
  ⟨h.rs.keep hb, h.on.trans (Only.ofBelow hb), h.blt, h.vlt, h.lo⟩
theorem TK.alloc {w0 w w' : World} {b : Nat} {v : Value} {l : List UInt8} {i err : Nat} (h : TK w0 w w' b v l i err) (o : Obj) : TK w0 w (w'.alloc o) b v l i err :=
  h.below ((Below.refl _ _).alloc (Nat.le_refl _) o)
theorem TK.set {w0 w w' : World} {b : Nat} {v : Value} {l : List UInt8} {i err : Nat} (h : TK w0 w w' b v l i err) {I : Nat} (hI : w.heap.size ≤ I) (o : Nat) (u : Value) : TK w0 w (w'.setCell ⟨I, o, none⟩ u) b v l i err := by
  have ho : Only (fun k => k = I) w' (w'.setCell ⟨I, o, none⟩ u) := (Only.refl (fun k => k = I) w').setCell (p := ⟨I, o, none⟩) rfl u
  refine ⟨⟨h.rs.rd.keep ho (fun e => ?_) (fun g hg e => ?_), h.rs.lo, h.rs.own, h.rs.bel.setCell (p := ⟨I, o, none⟩) (Nat.le_trans h.lo hI) u⟩, h.on.then ho (fun k hk e => ?_), h.blt, h.vlt, h.lo⟩
  · have := h.blt; omega
  · have := h.vlt g hg; omega
  · omega
theorem TK.drew {w0 w w' : World} {b : Nat} {v : Value} {l : List UInt8} {i err : Nat} (h : TK w0 w w' b v l i err) : TK w0 w w'.drew b v l i err := h.below ((Below.refl _ _).drew)
def Three (w : World) (I : Nat) (x y z : Value) : Prop := w.heap[I]? = some (.cells #[x, y, z] 70 (0, 0))
theorem Three.cells {w : World} {I : Nat} {x y z : Value} (h : Three w I x y z) : (w.cell? ⟨I, 0, none⟩ = some x ∧ w.cell? ⟨I, 1, none⟩ = some y ∧ w.cell? ⟨I, 2, none⟩ = some z) ∧ (∀ o, w.frozen? ⟨I, o, none⟩ = false) ∧ I < w.heap.size := by
  unfold Three at h
  exact ⟨⟨by simp [World.cell?, h], by simp [World.cell?, h], by simp [World.cell?, h]⟩, fun o => by simp [World.frozen?, h], lt_of_block h⟩
theorem Three.keep {T : Nat → Prop} {w w' : World} {I : Nat} {x y z : Value} (h : Three w I x y z) (ho : Only T w w') (hn : ¬ T I) : Three w' I x y z := ho.heap h hn
theorem Three.below {w w' : World} {I : Nat} {x y z : Value} (h : Three w I x y z) (hb : Below w.heap.size w w') : Three w' I x y z := h.keep (Only.ofBelow (S := fun _ => False) hb) id
theorem Three.alloc {w : World} {I : Nat} {x y z : Value} (h : Three w I x y z) (o : Obj) : Three (w.alloc o) I x y z := h.keep ((Only.refl (fun _ => False) w).alloc o) id
theorem Three.set_ne {w : World} {I J o : Nat} {x y z u : Value} (h : Three w I x y z) (hn : I ≠ J) : Three (w.setCell ⟨J, o, none⟩ u) I x y z :=
  h.keep ((Only.refl (fun k => k = J) w).setCell (p := ⟨J, o, none⟩) rfl u) hn
theorem Three.new (w : World) (x y z : Value) : Three (w.alloc (.cells #[x, y, z] 70)) w.heap.size x y z := heap_alloc_new w _
theorem Three.all {w : World} {I : Nat} {x y z x' y' z' : Value} (h : Three w I x y z) : Three (((w.setCell ⟨I, 0, none⟩ x').setCell ⟨I, 1, none⟩ y').setCell ⟨I, 2, none⟩ z') I x' y' z' := by
  unfold Three at h ⊢
  rw [heap_setCell_self (heap_setCell_self (heap_setCell_self h))]
  rfl
theorem Three.one {w : World} {I : Nat} {x y z y' : Value} (h : Three w I x y z) : Three (w.setCell ⟨I, 1, none⟩ y') I x y' z := by
  unfold Three at h ⊢
  rw [heap_setCell_self h]
  rfl
theorem Three.two {w : World} {I : Nat} {x y z z' : Value} (h : Three w I x y z) : Three (w.setCell ⟨I, 2, none⟩ z') I x y z' := by
  unfold Three at h ⊢
  rw [heap_setCell_self h]
  rfl
theorem drop_more {l a r : List UInt8} {i k : Nat} (h : l.drop i = a ++ r) (hk : k = a.length) : l.drop (i + k) = r := by
  rw [← List.drop_drop, h, hk, List.drop_left]
end Go.Proofs.YtpincofjopmaaaaGreatDoor
namespace Go.Proofs.YtpincofjopmaaaaGreatDoor
open Go.RowKit
def insCells (l : List Ins) : List Value := l.flatMap fun x => [.string (S x.op), .int .i64 x.n, .string (S x.s)]
theorem insCells_at : ∀ (l : List Ins) (k : Nat) (x : Ins), l[k]? = some x → (insCells l)[k * 3]? = some (.string (S x.op)) ∧ (insCells l)[k * 3 + 1]? = some (.int .i64 x.n) ∧ (insCells l)[k * 3 + 2]? = some (.string (S x.s))
  | y :: l, 0, x, h => by
    simp at h
    subst h
    exact ⟨rfl, rfl, rfl⟩
  | y :: l, k + 1, x, h => by
    have ih := insCells_at l k x (by simpa using h)
    rw [show (k + 1) * 3 = k * 3 + 3 from by omega]
    exact ⟨ih.1, ih.2.1, ih.2.2⟩
  | [], k, x, h => by simp at h
structure IR (w w' : World) (vs : Value) (m : List Ins) : Prop where
  row : w'.ownsRow 0 70 3 vs m.length (insCells m)
  own : ∀ g, vs.ownBlock = some g → w.heap.size ≤ g
theorem IR.nil (w w' : World) : IR w w' (.slice none 0 0) [] := ⟨World.ownsRow_nil _ _ _ _, fun g hg => by simp [Value.ownBlock] at hg⟩
theorem IR.src {w w' : World} {vs : Value} {m : List Ins} (h : IR w w' vs m) : InsSrc w' vs m := by
  rcases h.row.2 with ⟨rfl, h0⟩ | ⟨g, cap, cur, rfl, _⟩
  · exact .inl ⟨_, _, rfl, List.length_eq_zero_iff.1 h0⟩
  · refine .inr ⟨g, 0, cap, rfl, fun k x hx => ?_⟩
    obtain ⟨h0, h1, h2⟩ := insCells_at m k x hx
    have c0 := h.row.cells (g := g) rfl _ _ h0
    have c1 := h.row.cells (g := g) rfl _ _ h1
    have c2 := h.row.cells (g := g) rfl _ _ h2
    rw [Addr.add_mid] at c0 c1 c2
    exact ⟨c0, by rw [Nat.add_assoc]; exact c1, by rw [Nat.add_assoc]; exact c2⟩
theorem IR.shape {w w' : World} {vs : Value} {m : List Ins} (h : IR w w' vs m) : ∃ ao c, vs = .slice ao m.length c := by
  rcases h.row.2 with ⟨rfl, h0⟩ | ⟨g, cap, cur, rfl, _⟩
  · exact ⟨_, _, by rw [h0]⟩
  · exact ⟨_, _, rfl⟩
theorem IR.keep {w w' w'' : World} {vs : Value} {m : List Ins} (h : IR w w' vs m) (hb : Below w'.heap.size w' w'') : IR w w'' vs m := ⟨(Only.ofBelow (S := fun _ => False) hb).row h.row (fun _ _ => id), h.own⟩
theorem IR.past {w w' w'' : World} {vs : Value} {m : List Ins} {b : Nat} (h : IR w w' vs m) (ho : Only (fun k => k = b) w' w'') (hb : b < w.heap.size) : IR w w'' vs m :=
  ⟨ho.row h.row (fun g hg e => by have := h.own g hg; omega), h.own⟩
theorem allE_mem : ∀ (l : List Ins), allE l = 0 → ∀ x ∈ l, x.e = 0
  | y :: l, h, x, hx => by
    unfold allE at h
    by_cases hy : y.e = 0
    · rw [if_pos hy] at h
      rcases List.mem_cons.1 hx with rfl | hx
      · exact hy
      · exact allE_mem l h x hx
    · rw [if_neg hy] at h; exact absurd h hy
def TakeG (l : List UInt8) (i err c k : Nat) (m : List Ins) (i' err' : Nat) : Prop :=
  ∀ (y : List Ins) (r : List UInt8), err = 0 → (∀ x ∈ y, x.ok) → allE y = 0 → y.length ≤ 200 → l.drop i = putL y ++ r → c = y.length ∧ m = y.take k ∧ err' = 0 ∧ i' = i + ((Lib.uvarint y.length).length + ((y.take k).flatMap Ins.bytes).length)
theorem take_next {l : List UInt8} {i i' k : Nat} {y : List Ins} {r : List UInt8} {x : Ins} (hd : l.drop i = putL y ++ r) (hi : i' = i + ((Lib.uvarint y.length).length + ((y.take k).flatMap Ins.bytes).length)) (hx : y[k]? = some x) :
    l.drop i' = x.bytes ++ ((y.drop (k + 1)).flatMap Ins.bytes ++ r) := by
  have hk : k < y.length := by
    rcases Nat.lt_or_ge k y.length with h | h
    · exact h
    · rw [List.getElem?_eq_none h] at hx; cases hx
  have hsp : y.flatMap Ins.bytes = (y.take k).flatMap Ins.bytes ++ (x.bytes ++ (y.drop (k + 1)).flatMap Ins.bytes) := by
    conv => lhs; rw [← List.take_append_drop k y]
    rw [List.flatMap_append, List.drop_eq_getElem_cons hk, List.flatMap_cons]
    rw [List.getElem?_eq_getElem hk] at hx
    rw [Option.some.inj hx]
  rw [putL, hsp] at hd
  have hd2 : l.drop i = (Lib.uvarint y.length ++ (y.take k).flatMap Ins.bytes) ++ (x.bytes ++ ((y.drop (k + 1)).flatMap Ins.bytes ++ r)) := by
    rw [hd]; simp only [List.append_assoc]
  rw [hi]
  exact drop_more hd2 (by rw [List.length_append])
theorem TakeG.next {l : List UInt8} {i err c k : Nat} {m : List Ins} {i' err' i2 err2 : Nat} {x : Ins} {ok : Bool} (h : TakeG l i err c k m i' err') (hk : k < c)
    (g : ∀ (y : Ins) (r : List UInt8), err' = 0 → y.ok → y.e = 0 → l.drop i' = y.bytes ++ r → x = y ∧ ok = true ∧ i2 = i' + y.bytes.length ∧ err2 = 0) :
    (∀ (y : List Ins) (r : List UInt8), err = 0 → (∀ x ∈ y, x.ok) → allE y = 0 → y.length ≤ 200 → l.drop i = putL y ++ r → ok = true) ∧ TakeG l i err c (k + 1) (m ++ [x]) i2 err2 := by
  have key : ∀ (y : List Ins) (r : List UInt8), err = 0 → (∀ x ∈ y, x.ok) → allE y = 0 → y.length ≤ 200 → l.drop i = putL y ++ r → ok = true ∧ c = y.length ∧ m ++ [x] = y.take (k + 1) ∧ err2 = 0 ∧ i2 = i + ((Lib.uvarint y.length).length + ((y.take (k + 1)).flatMap Ins.bytes).length) := by
    intro y r he hy hz hl hd
    obtain ⟨h1, h2, h3, h4⟩ := h y r he hy hz hl hd
    have hky : k < y.length := by omega
    have hx : y[k]? = some y[k] := List.getElem?_eq_getElem hky
    have hm : y[k] ∈ y := List.getElem_mem hky
    obtain ⟨e1, e2, e3, e4⟩ := g y[k] _ h3 (hy _ hm) (allE_mem y hz _ hm) (take_next hd h4 hx)
    refine ⟨e2, h1, ?_, e4, ?_⟩
    · rw [List.take_succ_eq_append_getElem hky, h2, e1]
    · rw [List.take_succ_eq_append_getElem hky, List.flatMap_append, List.length_append, e3, h4]
      simp
      omega
  exact ⟨fun y r a b c d e => (key y r a b c d e).1, fun y r a b c d e => (key y r a b c d e).2⟩
end Go.Proofs.YtpincofjopmaaaaGreatDoor
