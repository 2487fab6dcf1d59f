/-
  What a writer and a reader of package pack hold in memory.
  Conditions: none; these are definitions and small laws of worlds.
  The contracts of pack.Zig, pack.Zag and the document's Zig: each returns the zigzag encoding (or the number that it encodes) and leaves the world alone.
  Conditions: the arguments are within their types.
  The contracts of pack.appendVar, pack.Var and the document's Var: the varint of a number, appended to a slice of the caller's own, in new memory, or as a string.
  Conditions: the number is a uint64; the slice that is appended to owns its bytes.
-/
import Derived.Test.YtpincofjopmaaaaGreatDoorM05
import Derived.Test.YtpincofjopmaaaaGreatDoorProg
import Derived.Lib.Zigzag
import Derived.IntWalk
import Derived.Laws.BytesArg
import Derived.Laws.BitsAllLaws
namespace Go.Proofs.YtpincofjopmaaaaGreatDoor
open Go.RowKit

/-- A writer in block b: its one field, v, owns the bytes that were written. -/
structure WrAt (w : World) (b : Nat) (v : Value) (l : List UInt8) : Prop where
  blk : w.heap[b]? = some (.cells #[v] 237 (0, 0))
  row : RowIs w v l
/-- What a writer's call may turn. -/
def WrFoot (b : Nat) (v : Value) (k : Nat) : Prop := k = b ∨ v.ownBlock = some k
/-- A writer behind a call. -/
structure WrGrew (w : World) (b : Nat) (v : Value) (w' : World) (v' : Value) : Prop where
  only : Only (WrFoot b v) w w'
  came : v'.ownBlock = v.ownBlock ∨ ∀ g, v'.ownBlock = some g → w.heap.size ≤ g
theorem WrGrew.refl (w : World) (b : Nat) (v : Value) : WrGrew w b v w v := ⟨Only.refl _ _, .inl rfl⟩
theorem WrGrew.trans {a c d : World} {b : Nat} {u v x : Value} (h : WrGrew a b u c v) (k : WrGrew c b v d x) : WrGrew a b u d x := by
  refine ⟨h.only.then k.only ?_, ?_⟩
  · rintro i hi (e | e)
    · exact .inl e
    · rcases h.came with q | q
      · exact .inr (by rw [← q]; exact e)
      · have := q i e; omega
  · rcases k.came with e | e
    · rw [e]; exact h.came
    · exact .inr fun g hg => Nat.le_trans h.only.size (e g hg)
theorem WrGrew.alloc {a w : World} {b : Nat} {u v : Value} (h : WrGrew a b u w v) (o : Obj) : WrGrew a b u (w.alloc o) v := ⟨h.only.alloc o, h.came⟩
theorem WrGrew.ofGrew {w w' : World} {b : Nat} {v v' : Value} (h : Grew w v w' v') : WrGrew w b v w' v' := ⟨h.only.mono (fun _ _ s => .inr s), h.came⟩
theorem WrGrew.setCell {a w : World} {b : Nat} {u v : Value} (h : WrGrew a b u w v) (x : Value) : WrGrew a b u (w.setCell ⟨b, 0, none⟩ x) v := ⟨h.only.setCell (.inl rfl) x, h.came⟩
theorem WrAt.ne {w : World} {b : Nat} {v : Value} {l : List UInt8} (h : WrAt w b v l) : ∀ g, v.ownBlock = some g → g ≠ b := by
  intro g hg e
  subst e
  rcases h.row.2 with ⟨rfl, _⟩ | ⟨g', cap, cur, rfl, hb, hgg, rest⟩
  · simp [Value.ownBlock] at hg
  · simp [Value.ownBlock] at hg
    subst hg
    have := h.blk
    rw [hgg] at this
    simp at this
theorem WrAt.keep {S : Nat → Prop} {w w' : World} {b : Nat} {v : Value} {l : List UInt8} (h : WrAt w b v l) (ho : Only S w w') (hb : ¬ S b) (hv : ∀ g, v.ownBlock = some g → ¬ S g) : WrAt w' b v l :=
  ⟨ho.heap h.blk hb, ho.row h.row hv⟩
theorem WrAt.alloc {w : World} {b : Nat} {v : Value} {l : List UInt8} (h : WrAt w b v l) (o : Obj) : WrAt (w.alloc o) b v l :=
  h.keep ((Only.refl (fun _ => False) w).alloc o) id (fun _ _ => id)
theorem WrAt.c0 {w : World} {b : Nat} {v : Value} {l : List UInt8} (h : WrAt w b v l) : w.cell? ⟨b, 0, none⟩ = some v := cell_of_one h.blk
theorem WrAt.free {w : World} {b : Nat} {v : Value} {l : List UInt8} (h : WrAt w b v l) : w.frozen? ⟨b, 0, none⟩ = false := free_of_one h.blk
/-- The field takes what grew out of it. -/
theorem WrAt.put {w w' : World} {b : Nat} {v v' : Value} {l l' : List UInt8} (h : WrAt w b v l) (g : Grew w v w' v') (r : RowIs w' v' l') : WrAt (w'.setCell ⟨b, 0, none⟩ v') b v' l' := by
  have hb := g.only.heap h.blk (fun e => h.ne b e rfl)
  refine ⟨one_setCell hb, ownsRow_setCell_other r ?_ _⟩
  intro e
  have hbl := lt_of_block h.blk
  exact h.ne b (g.into b hbl e) rfl

/-- A round of a writer's call: the field takes what grew out of it. -/
theorem WrAt.step {w0 w w' : World} {b : Nat} {u v v' : Value} {l l' : List UInt8} (h : WrAt w b v l) (hg : WrGrew w0 b u w v) (g : Grew w v w' v') (r : RowIs w' v' l') :
    WrAt (w'.setCell ⟨b, 0, none⟩ v') b v' l' ∧ WrGrew w0 b u (w'.setCell ⟨b, 0, none⟩ v') v' := ⟨h.put g r, (hg.trans (.ofGrew g)).setCell _⟩

/-- A reader in block b: its bytes, where it stands, its error. -/
structure RdAt (w : World) (b : Nat) (v : Value) (l : List UInt8) (at_ : Nat) (err : Nat) : Prop where
  blk : w.heap[b]? = some (.cells #[v, .int .i64 at_, .int .i64 err] 180 (0, 0))
  row : RowIs w v l
  le : at_ ≤ l.length
  small : l.length ≤ 140737488355328

theorem RdAt.ne {w : World} {b : Nat} {v : Value} {l : List UInt8} {i err : Nat} (h : RdAt w b v l i err) : ∀ g, v.ownBlock = some g → g ≠ b := by
  intro g hg e
  subst e
  rcases h.row.2 with ⟨rfl, _⟩ | ⟨g', cap, cur, rfl, hb, hgg, rest⟩
  · simp [Value.ownBlock] at hg
  · simp [Value.ownBlock] at hg
    subst hg
    have := h.blk
    rw [hgg] at this
    simp at this
theorem RdAt.c0 {w : World} {b : Nat} {v : Value} {l : List UInt8} {i err : Nat} (h : RdAt w b v l i err) : w.cell? ⟨b, 0, none⟩ = some v := by simp [World.cell?, h.blk]
theorem RdAt.c1 {w : World} {b : Nat} {v : Value} {l : List UInt8} {i err : Nat} (h : RdAt w b v l i err) : w.cell? ⟨b, 1, none⟩ = some (.int .i64 i) := by simp [World.cell?, h.blk]
theorem RdAt.c2 {w : World} {b : Nat} {v : Value} {l : List UInt8} {i err : Nat} (h : RdAt w b v l i err) : w.cell? ⟨b, 2, none⟩ = some (.int .i64 err) := by simp [World.cell?, h.blk]
theorem RdAt.free {w : World} {b : Nat} {v : Value} {l : List UInt8} {i err : Nat} (h : RdAt w b v l i err) (o : Nat) : w.frozen? ⟨b, o, none⟩ = false := by simp [World.frozen?, h.blk]
theorem RdAt.keep {S : Nat → Prop} {w w' : World} {b : Nat} {v : Value} {l : List UInt8} {i err : Nat} (h : RdAt w b v l i err) (ho : Only S w w') (hb : ¬ S b) (hv : ∀ g, v.ownBlock = some g → ¬ S g) : RdAt w' b v l i err :=
  ⟨ho.heap h.blk hb, ho.row h.row hv, h.le, h.small⟩
theorem RdAt.setAt {w : World} {b : Nat} {v : Value} {l : List UInt8} {i err : Nat} (h : RdAt w b v l i err) (j : Nat) (hj : j ≤ l.length) : RdAt (w.setCell ⟨b, 1, none⟩ (.int .i64 j)) b v l j err :=
  ⟨by rw [heap_setCell_self h.blk]; rfl, ((Only.refl (fun k => k = b) w).setCell (p := ⟨b, 1, none⟩) rfl _).row h.row h.ne, hj, h.small⟩
theorem RdAt.setErr {w : World} {b : Nat} {v : Value} {l : List UInt8} {i err : Nat} (h : RdAt w b v l i err) (e : Nat) : RdAt (w.setCell ⟨b, 2, none⟩ (.int .i64 e)) b v l i e :=
  ⟨by rw [heap_setCell_self h.blk]; rfl, ((Only.refl (fun k => k = b) w).setCell (p := ⟨b, 2, none⟩) rfl _).row h.row h.ne, h.le, h.small⟩
end Go.Proofs.YtpincofjopmaaaaGreatDoor
namespace Go.Proofs.YtpincofjopmaaaaGreatDoor
open Go.RowKit

/-- The number that a zigzag encoding encodes. -/
def zag (v : Nat) : Int := if v % 2 = 0 then (v / 2 : Nat) else -((v / 2 : Nat) : Int) - 1

theorem zag_zigzag (n : Int) : zag (Lib.zigzag n) = n := by
  unfold zag Lib.zigzag
  split <;> split <;> omega
theorem zigzag_zag (v : Nat) : Lib.zigzag (zag v) = v := by
  unfold zag Lib.zigzag
  split <;> split <;> omega
theorem zag_bd (v : Nat) (h : v < 18446744073709551616) : -9223372036854775808 ≤ zag v ∧ zag v ≤ 9223372036854775807 := by
  unfold zag
  split <;> omega
theorem xor_u64_zero (a : Nat) (ha : a < 18446744073709551616) : bits .xor .u64 (a : Int) 0 = a := by
  have := bits_xor_u64_nat a 0 ha (by decide)
  simpa using this
theorem zig_bits (n : Int) (h0 : -9223372036854775808 ≤ n) (h1 : n ≤ 9223372036854775807) :
    bits .xor .u64 (IntKind.u64.wrap (IntKind.u64.wrap n * 2)) (IntKind.u64.wrap (n / 9223372036854775808)) = ((Lib.zigzag n : Nat) : Int) := by
  by_cases hn : 0 ≤ n
  · have e1 : n / 9223372036854775808 = 0 := by omega
    have e2 : IntKind.u64.wrap (IntKind.u64.wrap n * 2) = ((Lib.zigzag n : Nat) : Int) := by
      rw [Lib.zigzag_nonneg hn, IntKind.wrap_u64, IntKind.wrap_u64]
      omega
    rw [e1, e2, show IntKind.u64.wrap 0 = 0 from by decide, xor_u64_zero _ (Lib.zigzag_lt h0 h1)]
  · have e1 : n / 9223372036854775808 = -1 := by omega
    have hz := Lib.zigzag_neg h0 (by omega)
    have e3 : IntKind.u64.wrap (IntKind.u64.wrap n * 2) = (((2 * n + 18446744073709551616).toNat : Nat) : Int) := by
      rw [IntKind.wrap_u64, IntKind.wrap_u64]
      omega
    have e2 : IntKind.u64.max = ((2 ^ 64 - 1 : Nat) : Int) := by decide
    rw [e3, e2, bits_xor_u64_nat _ _ (by decide) (by omega)] at hz
    rw [e1, show IntKind.u64.wrap (-1) = ((2 ^ 64 - 1 : Nat) : Int) from by decide, e3, bits_xor_u64_nat _ _ (by omega) (by decide), Nat.xor_comm]
    exact hz
theorem xor_i64_comm (a b : Int) : bits .xor .i64 a b = bits .xor .i64 b a := by
  show IntKind.i64.wrap ((BitVec.ofInt 64 a ^^^ BitVec.ofInt 64 b).toNat : Int) = IntKind.i64.wrap ((BitVec.ofInt 64 b ^^^ BitVec.ofInt 64 a).toNat : Int)
  rw [BitVec.xor_comm]
theorem xor_i64_zero (x : Nat) (hx : x < 9223372036854775808) : bits .xor .i64 (x : Int) 0 = x := by
  show IntKind.i64.wrap ((BitVec.ofInt 64 (x : Int) ^^^ BitVec.ofInt 64 0).toNat : Int) = _
  have h2 : (BitVec.ofInt 64 (x : Int)).toNat = x := by
    rw [BitVec.ofInt_natCast, BitVec.toNat_ofNat]; exact Nat.mod_eq_of_lt (by omega)
  rw [BitVec.toNat_xor, h2, show (BitVec.ofInt 64 0).toNat = 0 from by decide, Nat.xor_zero, IntKind.wrap_i64]
  omega
theorem zag_bits (v : Nat) (h1 : v < 18446744073709551616) :
    bits .xor .i64 ((v : Int) / 2) (wrap64 (-wrap64 (bits .and .u64 (v : Int) 1))) = zag v := by
  rw [Lib.u64_and1 _ (by omega) (by omega)]
  have e : ((v : Int) / 2) = ((v / 2 : Nat) : Int) := by omega
  rw [e]
  unfold zag
  by_cases hv : v % 2 = 0
  · rw [if_pos hv, show (v : Int) % 2 = 0 from by omega, show wrap64 (-wrap64 0) = 0 from by kernel_rfl]
    exact xor_i64_zero _ (by omega)
  · rw [if_neg hv, show (v : Int) % 2 = 1 from by omega, show wrap64 (-wrap64 1) = -1 from by kernel_rfl, xor_i64_comm]
    exact Lib.i64_not _ (by omega)

theorem zig_any (n : Int) (w : World) (h0 : -9223372036854775808 ≤ n) (h1 : n ≤ 9223372036854775807) :
    Calls Tryz.prog 274 #[.int .i64 n] w fun e w' => e = .returned (.int .u64 (Lib.zigzag n)) ∧ w = w' := by
  go_enter Tryz.func274, Tryz.ntmps274
  go_wp2
  go_ret
  exact ⟨ret_int (zig_bits n h0 h1), rfl⟩
theorem zag_any (v : Nat) (w : World) (h1 : v < 18446744073709551616) :
    Calls Tryz.prog 288 #[.int .u64 v] w fun e w' => e = .returned (.int .i64 (zag v)) ∧ w = w' := by
  go_enter Tryz.func288, Tryz.ntmps288
  go_wp2
  go_ret
  exact ⟨ret_int (zag_bits v h1), rfl⟩
end Go.Proofs.YtpincofjopmaaaaGreatDoor
namespace Go.Proofs.YtpincofjopmaaaaGreatDoor
open Go.RowKit
theorem and127 (y : Nat) (hy : y < 18446744073709551616) : bits .and .u64 (y : Int) 127 = ((y % 128 : Nat) : Int) := by
  have h := bits_mask .u64 64 (by decide) wraps_u64 7 (by decide) (y : Int) (by omega) (by omega)
  have e : ((2 : Int) ^ 7 - 1) = 127 := by decide
  simpa using h
set_option maxRecDepth 100000 in
theorem or128_nat2 : ∀ a : Fin 128, (a.val ||| 128) = a.val + 128 := by decide
theorem or128 (a : Nat) (h : a < 128) : bits .or .u64 (a : Int) 128 = ((a + 128 : Nat) : Int) := by
  have h1 := (bits_nat .u64 64 (by decide) wraps_u64 a 128 (by omega) (by decide)).2
  have h2 : (a ||| 128) = a + 128 := or128_nat2 ⟨a, h⟩
  rw [h2] at h1
  exact h1

set_option maxHeartbeats 4000000 in
set_option maxRecDepth 100000 in
theorem appendVar_any (x : Nat) (hx : x < 18446744073709551616) (sv : Value) (l : List UInt8) (w : World) (hown : RowIs w sv l) (hlim : l.length + 10 ≤ 140737488355328) :
    Calls Tryz.prog 272 #[sv, .int .u64 x] w fun e w' => ∃ v', e = .returned v' ∧ RowIs w' v' (l ++ Lib.uvarint x) ∧ Grew w sv w' v' := by
  obtain ⟨i0, hi, hz0, hz1, hz2⟩ := info_parts info_u8
  have hlen := Lib.uvarint_length64 hx
  go_enter Tryz.func272, Tryz.ntmps272
  go_wp2
  go_loopw [0, 1, 5] (fun vb vx vi wr => ∃ (y k : Nat) (pre : List UInt8), vi = .int .i64 k ∧ vx = .int .u64 y ∧ y ≤ x ∧ Lib.uvarint x = pre ++ Lib.uvarint y ∧ pre.length = k ∧ RowIs wr vb (l ++ pre) ∧ Grew w sv wr vb)
    (fun _ _ vi _ => 10 - (intOf vi).toNat)
  case atStart => exact ⟨x, 0, [], rfl, rfl, Nat.le_refl _, rfl, rfl, by simpa using hown, Grew.refl _ _⟩
  case round =>
    obtain ⟨y, k, pre, rfl, rfl, hy, hsplit, hpre, hown1, hnx⟩ := hrel
    have hpl : k + (Lib.uvarint y).length ≤ 10 := by
      have h2 := congrArg List.length hsplit
      rw [List.length_append] at h2
      omega
    have hyp := Lib.uvarint_pos y
    have hk9 : k ≤ 9 := by omega
    have HS := Lib.hid hsplit
    have HP := Lib.hid hpre
    have hll : (l ++ pre).length ≤ l.length + 9 := by rw [List.length_append]; omega
    clear hsplit hpre
    by_cases h128 : 128 ≤ y
    · have hk8 : k ≤ 8 := by rw [Lib.uvarint_big h128, List.length_cons] at hpl; have := Lib.uvarint_pos (y / 128); omega
      have hand : bits .and .u64 (y : Int) 127 = (y : Int) % 128 := (and127 y (by omega)).trans (by omega)
      have hor : bits .or .u64 ((y : Int) % 128) 128 = (y : Int) % 128 + 128 := by have h := or128 (y % 128) (by omega); rw [show ((y % 128 : Nat) : Int) = (y : Int) % 128 from by omega] at h; rw [h]; omega
      clear hpl
      go_wp2_with (at_builtin; refine wpList_append_fine _ rfl _ _ 71 rfl 5 i0 (.int .u8 0) 1 1 Tryz.underlying71 hi hz0 hz1 hz2 rfl (by decide) _ _ _ rfl (hown1.alloc _) ⟨wr.heap.size, 0, none⟩ 1 1 [Value.int .u8 ((y % 128 + 128 : Nat) : Int)] rfl rfl ?c1 ?c2 ?c3 ?c4 ?_)
      case c1 =>
        intro j u hj
        match j, hj with
        | 0, hj => simp at hj; subst hj; simp [Addr.add]
      case c2 => intro u hu; simp at hu; subst hu; rfl
      case c3 => unfold maxLen; omega
      case c4 => omega
      intro v' w1 hown' hgrow
      have hnx1 : Grew w sv w1 v' := (hnx.alloc _).trans hgrow
      go_wp2
      go_roundw
      case rel =>
        refine ⟨y / 128, k + 1, pre ++ [(y % 128 + 128).toUInt8], by go_num, by go_num, by omega, by rw [HS.out, Lib.uvarint_big h128]; simp, by rw [List.length_append, HP.out]; rfl, ?_, hnx1⟩
        show w1.ownsRow 0 _ 1 _ (l ++ (pre ++ [(y % 128 + 128).toUInt8])).length (Lib.byteCells (l ++ (pre ++ [(y % 128 + 128).toUInt8])))
        rw [← List.append_assoc, Lib.byteCells_snoc _ (by omega), List.length_append, List.length_singleton, List.length_append, show ((y % 128 + 128 : Nat) : Int) = (y : Int) % 128 + 128 from by omega]
        exact hown'
      case measure => simp [intOf]; omega
    · have hsm : Lib.uvarint y = [y.toUInt8] := Lib.uvarint_small (by omega)
      have HM := Lib.hid hsm
      clear hsm hpl
      go_wp2_with (at_builtin; refine wpList_append_fine _ rfl _ _ 71 rfl 5 i0 (.int .u8 0) 1 1 Tryz.underlying71 hi hz0 hz1 hz2 rfl (by decide) _ _ _ rfl (hown1.alloc _) ⟨wr.heap.size, 0, none⟩ 1 1 [Value.int .u8 (y : Int)] rfl rfl ?d1 ?d2 ?d3 ?d4 ?_)
      case d1 =>
        intro j u hj
        match j, hj with
        | 0, hj => simp at hj; subst hj; simp [Addr.add]
      case d2 => intro u hu; simp at hu; subst hu; rfl
      case d3 => unfold maxLen; omega
      case d4 => omega
      intro v' w1 hown' hgrow
      have hnx1 : Grew w sv w1 v' := (hnx.alloc _).trans hgrow
      go_wp2
      go_ret
      refine ⟨v', rfl, ?_, hnx1⟩
      show w1.ownsRow 0 _ 1 _ (l ++ Lib.uvarint x).length (Lib.byteCells (l ++ Lib.uvarint x))
      rw [HS.out, HM.out, ← List.append_assoc, Lib.byteCells_snoc _ (by omega), List.length_append, List.length_singleton, List.length_append]
      exact hown'
end Go.Proofs.YtpincofjopmaaaaGreatDoor
