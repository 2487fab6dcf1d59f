/-
  The contracts of the document's Whole and Text over the program.
  What a law's own writers and readers are (all in new memory): their calls.
  The contracts of package pack's reader, Count, and of the laws' get: a field that is read, by its kind.
  Plain: what is written as a varint is read as the same number; '[]byte(s)' holds the string's bytes.
  The contract of the document's Num: the number that bytes begin with, what is behind it, and an error, as the reader's own rules have it.
  Plain: where a number that is read ends.
  The contract of package pack's Count at a reader with no error.
  The contracts of package code's Put and of its closure: instructions that may be are their bytes, else the first error.
  Conditions: as each text of it says.
-/
import Derived.Test.YtpincofjopmaaaaGreatDoorM09
import Derived.Lib.Bytes
import Derived.Test.YtpincofjopmaaaaGreatDoorM07
import Derived.Test.YtpincofjopmaaaaGreatDoorM06
import Derived.Lib.ConvBytes
namespace Go.Proofs.YtpincofjopmaaaaGreatDoor
open Go.RowKit Go.Lib
theorem charB_S (l : List UInt8) : charB (S l) = charL l := by unfold charB charL; rw [S_size, S_get, S_get, S_get, S_get]
set_option maxHeartbeats 2000000 in
set_option maxRecDepth 100000 in
theorem whole_any (s : List UInt8) (w : World) (hs : s.length ≤ 4611686018427387904) :
    Calls Tryz.prog 270 #[.string (S s)] w fun e w' => e = .returned (.bool (validD s)) ∧ ∃ q, w' = w.drewN q := by
  obtain ⟨R, hR⟩ : ∃ R, R = validD s := ⟨_, rfl⟩
  rw [← hR]
  have HR := Lib.hid hR
  clear hR
  go_enter Tryz.func270, Tryz.ntmps270
  go_wp2
  go_loopg [0] (s.length + 1) (fun gk v0 wr => (∃ q, wr = w.drewN q) ∧ ∃ t : List UInt8, v0 = .string (S t) ∧ validD t = R ∧ t.length < gk ∧ t.length ≤ 4611686018427387904)
  case atStart => exact ⟨⟨0, rfl⟩, s, rfl, HR.out.symm, by omega, hs⟩
  case round =>
    obtain ⟨⟨q, rfl⟩, t, rfl, hv, hg, hts⟩ := hrel
    have HV := Lib.hid hv
    clear hv
    cases t with
    | nil =>
      have hR : R = true := by rw [← HV.out]; rfl
      subst hR
      rw [show S [] = ⟨#[]⟩ from rfl]
      go_wp2
      go_ret
      exact ⟨rfl, _, rfl⟩
    | cons b t =>
      rw [List.length_cons] at hg hts
      obtain ⟨u, hu⟩ : ∃ u, u = S (b :: t) := ⟨_, rfl⟩
      have hus : u.size = t.length + 1 := by rw [hu, S_size]; rfl
      have HCH := Lib.hid (char_any u (w.drewN q) (by omega))
      have hl : t.length + 1 ≤ 4611686018427387904 := hts
      have hK := charL_le (b :: t) (by simp)
      rw [← charB_S, ← hu] at hK
      obtain ⟨K, hKK⟩ : ∃ K, K = charB u := ⟨_, rfl⟩
      rw [← hKK] at HCH hK
      rw [← hu]
      have h1 : (0 : Int) < (u.size : Int) := by omega
      have h2 : (K : Int) ≤ (u.size : Int) := by rw [hus]; simp at hK; omega
      have hsz : (u.size : Int) ≤ 4611686018427387904 := by omega
      have hne : (!u.toList.isEmpty) = true := by rw [hu, S_toList]; rfl
      have HU := Lib.hid hu
      have HUS := Lib.hid hus
      have HKK := Lib.hid hKK
      clear hu hus hKK
      go_wp2_with (go_at_call 282; refine HCH.out.mono ?_; rintro e w1 ⟨rfl, q1, rfl⟩)
      · go_ret
        have hk0 : ((K : Int) == 0) = true := by assumption
        rw [beq_iff_eq] at hk0
        have hb : validD (b :: t) = false := by
          rw [valid_char _ (by simp), ← charB_S, ← HU.out, ← HKK.out, if_pos (by omega)]
        exact ⟨by rw [← HV.out, hb]; rfl, _, rfl⟩
      · have hk0 : ((K : Int) == 0) = false := by assumption
        rw [beq_eq_false_iff_ne] at hk0
        have hb : validD (b :: t) = validD ((b :: t).drop K) := by
          rw [valid_char _ (by simp), ← charB_S, ← HU.out, ← HKK.out, if_neg (by omega)]
        obtain ⟨g', rfl⟩ : ∃ g', gk = g' + 1 := ⟨gk - 1, by omega⟩
        go_roundg g'
        case measure => omega
        case rel => exact ⟨⟨_, rfl⟩, (b :: t).drop K, by rw [HU.out, S_drop], by rw [← hb]; exact HV.out, by rw [List.length_drop, List.length_cons]; omega, by rw [List.length_drop, List.length_cons]; omega⟩
end Go.Proofs.YtpincofjopmaaaaGreatDoor
namespace Go.Proofs.YtpincofjopmaaaaGreatDoor
open Go.RowKit

structure WS (w0 w : World) (b : Nat) (v : Value) (l : List UInt8) : Prop where
  wr : WrAt w b v l
  lo : w0.heap.size ≤ b
  own : ∀ g, v.ownBlock = some g → w0.heap.size ≤ g
  bel : Below w0.heap.size w0 w
structure RS (w0 w : World) (b : Nat) (v : Value) (l : List UInt8) (i err : Nat) : Prop where
  rd : RdAt w b v l i err
  lo : w0.heap.size ≤ b
  own : ∀ g, v.ownBlock = some g → w0.heap.size ≤ g
  bel : Below w0.heap.size w0 w
theorem WS.new {w0 w : World} (h : Below w0.heap.size w0 w) : WS w0 (w.alloc (.cells #[.slice none 0 0] 237)) w.heap.size (.slice none 0 0) [] :=
  ⟨⟨heap_alloc_new w _, World.ownsRow_nil _ _ _ _⟩, h.size, fun g hg => by simp [Value.ownBlock] at hg, h.alloc h.size _⟩
theorem WS.alloc {w0 w : World} {b : Nat} {v : Value} {l : List UInt8} (h : WS w0 w b v l) (o : Obj) : WS w0 (w.alloc o) b v l := ⟨h.wr.alloc o, h.lo, h.own, h.bel.alloc h.bel.size o⟩
theorem WS.step {w0 w w' : World} {b : Nat} {v v' : Value} {l l' : List UInt8} (h : WS w0 w b v l) (hw : WrAt w' b v' l') (hg : WrGrew w b v w' v') : WS w0 w' b v' l' := by
  have hs := h.bel.size
  refine ⟨hw, h.lo, fun g hv => ?_, h.bel.trans (hg.only.below hs (fun i hi => hi.elim (fun e => e ▸ h.lo) (fun e => h.own i e)))⟩
  rcases hg.came with e | e
  · exact h.own g (e ▸ hv)
  · exact Nat.le_trans hs (e g hv)
def Wrote' (w0 : World) (b : Nat) (l : List UInt8) (e : Ending) (w' : World) : Prop := e = .returned (.tuple #[]) ∧ ∃ v', WS w0 w' b v' l
theorem Wrote.ws {w0 w w' : World} {b : Nat} {v : Value} {l m : List UInt8} {e : Ending} (h : WS w0 w b v l) (hw : Wrote b v l m w e w') : Wrote' w0 b (l ++ m) e w' := by
  obtain ⟨he, v', h1, h2⟩ := hw
  exact ⟨he, v', h.step h1 h2⟩
theorem RS.step {w0 w w' : World} {b : Nat} {v : Value} {l : List UInt8} {i err i' err' : Nat} (h : RS w0 w b v l i err) (ho : Only (fun k => k = b) w w') (hr : RdAt w' b v l i' err') : RS w0 w' b v l i' err' :=
  ⟨hr, h.lo, h.own, h.bel.trans (ho.below h.bel.size (fun _ hi => hi ▸ h.lo))⟩
theorem RS.drewN {w0 w : World} {b : Nat} {v : Value} {l : List UInt8} {i err : Nat} (h : RS w0 w b v l i err) (q : Nat) : RS w0 (w.drewN q) b v l i err :=
  h.step ((Only.refl _ _).drewN q) (h.rd.drewN q)
def Got' (w0 : World) (b : Nat) (v : Value) (l : List UInt8) (i err : Nat) (x : Value) (e : Ending) (w' : World) : Prop := e = .returned x ∧ RS w0 w' b v l i err
theorem Got.rs {w0 w w' : World} {b : Nat} {v : Value} {l : List UInt8} {i err i' err' : Nat} {x : Value} {e : Ending} (h : RS w0 w b v l i err) (g : Got b v l i' err' x w e w') : Got' w0 b v l i' err' x e w' := ⟨g.1, h.step g.2.1 g.2.2⟩
theorem Tabs.below {w0 w : World} (h : Tabs w0) (hb : Below w0.heap.size w0 w) : Tabs w := Utf8Tabs_below h hb
theorem Tabs.one {w : World} (h : Tabs w) : 2 < w.heap.size := World.block_lt_of_cell? w _ (h.1 0 (by decide))
theorem Tabs.two {w : World} (h : Tabs w) : 3 < w.heap.size := World.block_lt_of_cell? w _ (h.2 0 (by decide)).1
theorem RS.ne {w0 w : World} {b : Nat} {v : Value} {l : List UInt8} {i err : Nat} (h : RS w0 w b v l i err) (hT : Tabs w0) : b ≠ 2 ∧ b ≠ 3 := by
  have h1 := hT.two
  have h3 := hT.one
  have h2 := h.lo
  omega
theorem RS.keep {w0 w w' : World} {b : Nat} {v : Value} {l : List UInt8} {i err : Nat} (h : RS w0 w b v l i err) (hb : Below w.heap.size w w') : RS w0 w' b v l i err :=
  ⟨h.rd.keep (S := fun _ => False) (Only.ofBelow hb) id (fun _ _ => id), h.lo, h.own, h.bel.trans (hb.mono h.bel.size)⟩
theorem WS.keep {w0 w w' : World} {b : Nat} {v : Value} {l : List UInt8} (h : WS w0 w b v l) (hb : Below w.heap.size w w') : WS w0 w' b v l :=
  ⟨h.wr.keep (S := fun _ => False) (Only.ofBelow hb) id (fun _ _ => id), h.lo, h.own, h.bel.trans (hb.mono h.bel.size)⟩

theorem BS.past {w0 w w' : World} {v x : Value} {l m : List UInt8} {b i err : Nat} (h : BS w0 w v l) (r : RS w0 w b x m i err) (ho : Only (fun k => k = b) w w') : BS w0 w' v l := by
  refine ⟨ho.row h.row (fun g hg e => ?_), h.own, h.bel.trans (ho.below h.bel.size (fun _ hi => hi ▸ r.lo))⟩
  subst e
  rcases h.row.2 with ⟨rfl, _⟩ | ⟨g', cap, cur, rfl, hb, hgg, rest⟩
  · simp [Value.ownBlock] at hg
  · simp [Value.ownBlock] at hg
    subst hg
    have := r.rd.blk
    rw [hgg] at this
    simp at this
end Go.Proofs.YtpincofjopmaaaaGreatDoor
namespace Go.Proofs.YtpincofjopmaaaaGreatDoor
open Go.RowKit
end Go.Proofs.YtpincofjopmaaaaGreatDoor
namespace Go.Proofs.YtpincofjopmaaaaGreatDoor
open Go.RowKit
end Go.Proofs.YtpincofjopmaaaaGreatDoor
namespace Go.Proofs.YtpincofjopmaaaaGreatDoor
open Go.RowKit
end Go.Proofs.YtpincofjopmaaaaGreatDoor
namespace Go.Proofs.YtpincofjopmaaaaGreatDoor
open Go.RowKit
end Go.Proofs.YtpincofjopmaaaaGreatDoor
namespace Go.Proofs.YtpincofjopmaaaaGreatDoor
open Go.RowKit
end Go.Proofs.YtpincofjopmaaaaGreatDoor
namespace Go.Proofs.YtpincofjopmaaaaGreatDoor
open Go.RowKit
structure WC (w0 w : World) (b c : Nat) (v : Value) (l : List UInt8) : Prop where
  ws : WS w0 w b v l
  cell : w.cell? ⟨c, 0, none⟩ = some (.pointer (some ⟨b, 0, none⟩))
  ne : c ≠ b
  nv : v.ownBlock ≠ some c
theorem WC.lt {w0 w : World} {b c : Nat} {v : Value} {l : List UInt8} (h : WC w0 w b c v l) : c < w.heap.size := World.block_lt_of_cell? w _ h.cell
theorem WC.alloc {w0 w : World} {b c : Nat} {v : Value} {l : List UInt8} (h : WC w0 w b c v l) (o : Obj) : WC w0 (w.alloc o) b c v l :=
  ⟨h.ws.alloc o, ((Only.refl (fun _ => False) w).alloc o).cell h.cell id, h.ne, h.nv⟩
theorem WC.keep {w0 w w' : World} {b c : Nat} {v : Value} {l : List UInt8} (h : WC w0 w b c v l) (hb : Below w.heap.size w w') : WC w0 w' b c v l :=
  ⟨h.ws.keep hb, (Only.ofBelow (S := fun _ => False) hb).cell h.cell id, h.ne, h.nv⟩
def argBytes (h : Nat) (n : Int) (s : List UInt8) : List UInt8 := if h = 1 then Lib.uvarint (Lib.zigzag n) else if 2 ≤ h then textBytes s else []
def Ins.bytes (x : Ins) : List UInt8 := Lib.uvarint (idx x.op) ++ argBytes (hasAt (idx x.op)) x.n x.s
def putL (l : List Ins) : List UInt8 := Lib.uvarint l.length ++ l.flatMap Ins.bytes
def Ins.ok (x : Ins) : Prop := (-9223372036854775808 ≤ x.n ∧ x.n ≤ 9223372036854775807) ∧ x.s.length ≤ 1048576
theorem Ins.bytes_le (x : Ins) (h : x.ok) : x.bytes.length ≤ 1048600 := by
  have h1 : (Lib.uvarint (idx x.op)).length ≤ 10 := Lib.uvarint_length64 (by have := idx_le x.op; omega)
  have h2 : (Lib.uvarint (Lib.zigzag x.n)).length ≤ 10 := Lib.uvarint_length64 (Lib.zigzag_lt h.1.1 h.1.2)
  have h3 : (Lib.uvarint x.s.length).length ≤ 10 := Lib.uvarint_length64 (by have := h.2; omega)
  have h4 := h.2
  unfold Ins.bytes argBytes textBytes
  rw [List.length_append]
  split
  · omega
  · split
    · rw [List.length_append]; omega
    · simp; omega
theorem insBytes_le (l : List Ins) (h : ∀ x ∈ l, x.ok) : (l.flatMap Ins.bytes).length ≤ 1048600 * l.length := by
  induction l with
  | nil => simp
  | cons x r ih =>
    have h1 := x.bytes_le (h x (by simp))
    have h2 := ih (fun y hy => h y (by simp [hy]))
    rw [List.flatMap_cons, List.length_append, List.length_cons]
    omega
end Go.Proofs.YtpincofjopmaaaaGreatDoor
