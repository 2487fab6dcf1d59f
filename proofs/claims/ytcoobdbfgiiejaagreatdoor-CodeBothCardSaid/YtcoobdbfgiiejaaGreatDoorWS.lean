/-
  What a law's own writers and readers are (all in new memory): their calls.
  Conditions: unicode/utf8's two tables hold what they hold at the start.
-/
import Derived.Test.YtcoobdbfgiiejaaGreatDoorText
namespace Go.Proofs.YtcoobdbfgiiejaaGreatDoor
open Go.RowKit

/-- A writer of the call's own. -/
structure WS (w0 w : World) (b : Nat) (v : Value) (l : List UInt8) : Prop where
  wr : WrAt w b v l
  lo : w0.heap.size ≤ b
  own : ∀ g, v.ownBlock = some g → w0.heap.size ≤ g
  bel : Below w0.heap.size w0 w
/-- A reader of the call's own. -/
structure RS (w0 w : World) (b : Nat) (v : Value) (l : List UInt8) (i err : Nat) : Prop where
  rd : RdAt w b v l i err
  lo : w0.heap.size ≤ b
  own : ∀ g, v.ownBlock = some g → w0.heap.size ≤ g
  bel : Below w0.heap.size w0 w
theorem WS.new {w0 w : World} (h : Below w0.heap.size w0 w) : WS w0 (w.alloc (.cells #[.slice none 0 0] 98)) w.heap.size (.slice none 0 0) [] :=
  ⟨⟨heap_alloc_new w _, World.ownsRow_nil _ _ _ _⟩, h.size, fun g hg => by simp [Value.ownBlock] at hg, h.alloc h.size _⟩
theorem WS.alloc {w0 w : World} {b : Nat} {v : Value} {l : List UInt8} (h : WS w0 w b v l) (o : Obj) : WS w0 (w.alloc o) b v l := ⟨h.wr.alloc o, h.lo, h.own, h.bel.alloc h.bel.size o⟩
theorem WS.step {w0 w w' : World} {b : Nat} {v v' : Value} {l l' : List UInt8} (h : WS w0 w b v l) (hw : WrAt w' b v' l') (hg : WrGrew w b v w' v') : WS w0 w' b v' l' := by
  have hs := h.bel.size
  refine ⟨hw, h.lo, fun g hv => ?_, h.bel.trans (hg.only.below hs (fun i hi => hi.elim (fun e => e ▸ h.lo) (fun e => h.own i e)))⟩
  rcases hg.came with e | e
  · exact h.own g (e ▸ hv)
  · exact Nat.le_trans hs (e g hv)
/-- What is said of a law's call of its writer. -/
def Wrote' (w0 : World) (b : Nat) (l : List UInt8) (e : Ending) (w' : World) : Prop := e = .returned (.tuple #[]) ∧ ∃ v', WS w0 w' b v' l
theorem Wrote.ws {w0 w w' : World} {b : Nat} {v : Value} {l m : List UInt8} {e : Ending} (h : WS w0 w b v l) (hw : Wrote b v l m w e w') : Wrote' w0 b (l ++ m) e w' := by
  obtain ⟨he, v', h1, h2⟩ := hw
  exact ⟨he, v', h.step h1 h2⟩
theorem ws_num {w0 w : World} {b : Nat} {v : Value} {l : List UInt8} (h : WS w0 w b v l) (x : Nat) (hx : x < 18446744073709551616) (hlim : l.length + 10 ≤ 140737488355328) :
    Calls Tryz.prog 26 #[.pointer (some ⟨b, 0, none⟩), .slice (some ⟨w.heap.size, 0, none⟩) 1 1] (w.alloc (.cells #[.int .u64 x] 37)) (Wrote' w0 b (l ++ Lib.uvarint x)) :=
  (wnum_one b w.heap.size v l x _ (h.wr.alloc _) h.wr.notNew.1 h.wr.notNew.2 (by simp) hx hlim).mono fun _ _ hw => (hw.ws (h.alloc _))
theorem ws_int {w0 w : World} {b : Nat} {v : Value} {l : List UInt8} (h : WS w0 w b v l) (x : Int) (hx : -9223372036854775808 ≤ x ∧ x ≤ 9223372036854775807) (hlim : l.length + 10 ≤ 140737488355328) :
    Calls Tryz.prog 29 #[.pointer (some ⟨b, 0, none⟩), .slice (some ⟨w.heap.size, 0, none⟩) 1 1] (w.alloc (.cells #[.int .i64 x] 2)) (Wrote' w0 b (l ++ Lib.uvarint (Lib.zigzag x))) :=
  (wint_one b w.heap.size v l x _ (h.wr.alloc _) h.wr.notNew.1 h.wr.notNew.2 (by simp) hx hlim).mono fun _ _ hw => (hw.ws (h.alloc _))
theorem ws_text {w0 w : World} {b : Nat} {v : Value} {l : List UInt8} (h : WS w0 w b v l) (s : List UInt8) (hlim : l.length + (s.length + 10) ≤ 140737488355328) :
    Calls Tryz.prog 31 #[.pointer (some ⟨b, 0, none⟩), .slice (some ⟨w.heap.size, 0, none⟩) 1 1] (w.alloc (.cells #[.string (S s)] 9)) (Wrote' w0 b (l ++ textBytes s)) :=
  (wtext_one b w.heap.size v l s _ (h.wr.alloc _) h.wr.notNew.1 h.wr.notNew.2 (by simp) hlim).mono fun _ _ hw => (hw.ws (h.alloc _))
def Bytes' (w0 : World) (l : List UInt8) (e : Ending) (w' : World) : Prop := ∃ v, e = .returned v ∧ BS w0 w' v l
theorem ws_bytes {w0 w : World} {b : Nat} {v : Value} {l : List UInt8} (h : WS w0 w b v l) (hlim : l.length ≤ 140737488355328) :
    Calls Tryz.prog 32 #[.pointer (some ⟨b, 0, none⟩)] w (Bytes' w0 l) :=
  (wbytes_any b v l w h.wr hlim).mono fun _ _ ⟨v', he, h1, h2, h3⟩ => ⟨v', he, h1, fun g hg => Nat.le_trans h.bel.size (h3 g hg), h.bel.trans (h2.mono h.bel.size)⟩
def Read' (w0 w : World) (l : List UInt8) (e : Ending) (w' : World) : Prop := ∃ b v, e = .returned (.pointer (some ⟨b, 0, none⟩)) ∧ RS w0 w' b v l 0 0 ∧ Below w.heap.size w w'
theorem rs_read {w0 w : World} (hb : Below w0.heap.size w0 w) (sv : Value) (l : List UInt8) (hs : SrcIs w sv l) (hlim : l.length ≤ 140737488355328) :
    Calls Tryz.prog 16 #[sv] w (Read' w0 w l) :=
  (read_any sv l w hs hlim).mono fun _ _ ⟨b, v, he, h1, h2, h3, h4⟩ => ⟨b, v, he, ⟨h2, Nat.le_trans hb.size h3, fun g hg => Nat.le_trans hb.size (h4 g hg), hb.trans (h1.mono hb.size)⟩, h1⟩
theorem RS.step {w0 w w' : World} {b : Nat} {v : Value} {l : List UInt8} {i err i' err' : Nat} (h : RS w0 w b v l i err) (ho : Only (fun k => k = b) w w') (hr : RdAt w' b v l i' err') : RS w0 w' b v l i' err' :=
  ⟨hr, h.lo, h.own, h.bel.trans (ho.below h.bel.size (fun _ hi => hi ▸ h.lo))⟩
theorem RS.drewN {w0 w : World} {b : Nat} {v : Value} {l : List UInt8} {i err : Nat} (h : RS w0 w b v l i err) (q : Nat) : RS w0 (w.drewN q) b v l i err :=
  h.step ((Only.refl _ _).drewN q) (h.rd.drewN q)
def Got' (w0 : World) (b : Nat) (v : Value) (l : List UInt8) (i err : Nat) (x : Value) (e : Ending) (w' : World) : Prop := e = .returned x ∧ RS w0 w' b v l i err
theorem Got.rs {w0 w w' : World} {b : Nat} {v : Value} {l : List UInt8} {i err i' err' : Nat} {x : Value} {e : Ending} (h : RS w0 w b v l i err) (g : Got b v l i' err' x w e w') : Got' w0 b v l i' err' x e w' := ⟨g.1, h.step g.2.1 g.2.2⟩
theorem Tabs.below {w0 w : World} (h : Tabs w0) (hb : Below w0.heap.size w0 w) : Tabs w := Utf8Tabs_below h hb
theorem Tabs.one {w : World} (h : Tabs w) : 2 < w.heap.size := World.block_lt_of_cell? w _ (h.1 0 (by decide))
theorem Tabs.two {w : World} (h : Tabs w) : 3 < w.heap.size := World.block_lt_of_cell? w _ (h.2 0 (by decide)).1
theorem RS.ne {w0 w : World} {b : Nat} {v : Value} {l : List UInt8} {i err : Nat} (h : RS w0 w b v l i err) (hT : Tabs w0) : b ≠ 2 ∧ b ≠ 3 := by
  have h1 := hT.two
  have h3 := hT.one
  have h2 := h.lo
  omega
theorem RS.keep {w0 w w' : World} {b : Nat} {v : Value} {l : List UInt8} {i err : Nat} (h : RS w0 w b v l i err) (hb : Below w.heap.size w w') : RS w0 w' b v l i err :=
  ⟨h.rd.keep (S := fun _ => False) (Only.ofBelow hb) id (fun _ _ => id), h.lo, h.own, h.bel.trans (hb.mono h.bel.size)⟩
theorem WS.keep {w0 w w' : World} {b : Nat} {v : Value} {l : List UInt8} (h : WS w0 w b v l) (hb : Below w.heap.size w w') : WS w0 w' b v l :=
  ⟨h.wr.keep (S := fun _ => False) (Only.ofBelow hb) id (fun _ _ => id), h.lo, h.own, h.bel.trans (hb.mono h.bel.size)⟩

theorem BS.past {w0 w w' : World} {v x : Value} {l m : List UInt8} {b i err : Nat} (h : BS w0 w v l) (r : RS w0 w b x m i err) (ho : Only (fun k => k = b) w w') : BS w0 w' v l := by
  refine ⟨ho.row h.row (fun g hg e => ?_), h.own, h.bel.trans (ho.below h.bel.size (fun _ hi => hi ▸ r.lo))⟩
  subst e
  rcases h.row.2 with ⟨rfl, _⟩ | ⟨g', cap, cur, rfl, hb, hgg, rest⟩
  · simp [Value.ownBlock] at hg
  · simp [Value.ownBlock] at hg
    subst hg
    have := r.rd.blk
    rw [hgg] at this
    simp at this
end Go.Proofs.YtcoobdbfgiiejaaGreatDoor
