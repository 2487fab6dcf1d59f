/-
  The contract of the document's Var, Int, Text and Flag: the bytes as a string.
  Conditions: the number is a uint64.
  The contracts of bytes.Clone and of package pack's writer: Write, Num, Int, Flag, Text, Bytes: a writer holds the encodings of what was written, one behind the other.
  Conditions: the writer's bytes and what is written stay below 2^47 bytes; what is written lies in memory that is not the writer's.
  The contracts of package pack's writer, the second half: Flag, Text, Bytes.
  Conditions: the writer's bytes and what is written stay below 2^47 bytes; what is written lies in memory that is not the writer's.
-/
import Derived.Test.YtpincofjopmaaaaGreatDoorM07
import Derived.Lib.SliceRun
namespace Go.Proofs.YtpincofjopmaaaaGreatDoor
open Go.RowKit
end Go.Proofs.YtpincofjopmaaaaGreatDoor
namespace Go.Proofs.YtpincofjopmaaaaGreatDoor
open Go.RowKit
set_option maxHeartbeats 4000000 in
set_option maxRecDepth 100000 in
theorem clone_any (sv : Value) (l : List UInt8) (w : World) (hs : SrcIs w sv l) (hlim : l.length ≤ 140737488355328) :
    Calls Tryz.prog 158 #[sv] w fun e w' => ∃ v', e = .returned v' ∧ RowIs w' v' l ∧ Below w.heap.size w w' ∧ (∀ g, v'.ownBlock = some g → w.heap.size ≤ g) := by
  obtain ⟨i0, hi, hz0, hz1, hz2⟩ := info_parts info_u8
  have q22 : ∀ (w : World) (a : Option Addr) (n c n' c' : Nat), (binOp .eql 71 (.slice a n c) (.slice none n' c')).run Tryz.prog w = .ok (.bool a.isNone) w := fun w a n c n' c' => Lib.run_eql_slice_nil w _ _ a n c n' c' Tryz.underlying71
  rcases hs with ⟨rfl, rfl⟩ | ⟨a, cap, rfl, hc⟩
  · go_enter Tryz.func158, Tryz.ntmps158
    go_wp2
    go_ret
    exact ⟨_, rfl, World.ownsRow_nil _ _ _ _, Below.refl _ _, fun g hg => by simp [Value.ownBlock] at hg⟩
  · have hc' : ∀ j u, (Lib.byteCells l)[j]? = some u → (w.alloc (.cells #[] 5)).cell? (a.add j) = some u := fun j u hj => ((Only.refl (fun _ => False) w).alloc _).cell (hc j u hj) id
    have HC := Lib.hid hc'
    clear hc hc'
    go_enter Tryz.func158, Tryz.ntmps158
    go_wp2_with (at_builtin; refine wpList_append_fine _ rfl _ _ 71 rfl 5 i0 (.int .u8 0) 1 1 Tryz.underlying71 hi hz0 hz1 hz2 rfl (by decide) _ _ _ rfl (World.ownsRow_made w #[] 0 (Nat.zero_le _) (by decide) rfl) a l.length cap (Lib.byteCells l) rfl (by rw [byteCells_length]; omega) HC.out (byteCells_one l) ?c3 ?c4 ?_)
    case c3 => unfold maxLen; omega
    case c4 => omega
    intro v' w1 hown' hgrow
    go_wp2
    go_ret
    have hb : Below w.heap.size w w1 := ((Below.refl _ w).alloc (Nat.le_refl _) _).trans (hgrow.only.below (by simp) (fun k hk => by simp [Value.ownBlock] at hk; omega))
    refine ⟨v', rfl, by simpa using hown', hb, fun g hg => ?_⟩
    rcases hgrow.came with e | e
    · rw [e] at hg; simp [Value.ownBlock] at hg; omega
    · have := e g hg; simp at this; omega
theorem write_any (w : World) : Calls Tryz.prog 205 #[] w fun e w' => e = .returned (.pointer (some ⟨w.heap.size, 0, none⟩)) ∧ w.alloc (.cells #[.slice none 0 0] 237) = w' := by
  go_enter Tryz.func205, Tryz.ntmps205
  go_wp2
  go_ret
  exact ⟨rfl, rfl⟩

/-- The varints of numbers, one behind the other. -/
def nums (ns : List Nat) : List UInt8 := ns.flatMap Lib.uvarint
theorem nums_le (ns : List Nat) (h : ∀ x ∈ ns, x < 18446744073709551616) : (nums ns).length ≤ 10 * ns.length := by
  induction ns with
  | nil => simp [nums]
  | cons x r ih =>
    have h1 := Lib.uvarint_length64 (h x (by simp))
    have h2 := ih (fun y hy => h y (by simp [hy]))
    simp only [nums, List.flatMap_cons, List.length_append, List.length_cons] at h2 ⊢
    omega
theorem nums_snoc (ns : List Nat) (k : Nat) (hk : k < ns.length) : nums (ns.take (k + 1)) = nums (ns.take k) ++ Lib.uvarint (ns.getD k 0) := by
  rw [List.take_succ_eq_append_getElem hk]
  unfold nums
  rw [List.flatMap_append]
  simp [hk]

theorem WrGrew.keeps {w w' : World} {b ab o : Nat} {v v' u : Value} (h : WrGrew w b v w' v') (hab : ab ≠ b) (hav : v.ownBlock ≠ some ab) (hc : w.cell? ⟨ab, o, none⟩ = some u) : w'.cell? ⟨ab, o, none⟩ = some u :=
  h.only.cell hc (fun q => q.elim hab hav)

theorem row_shape {B : Nat} {w : World} {e : TypeId} {size : Nat} {v : Value} {n : Nat} {xs : List Value} (h : w.ownsRow B e size v n xs) : ∃ ao m c, v = .slice ao m c := by
  rcases h.2 with ⟨rfl, rfl⟩ | ⟨g, cap, cur, rfl, _⟩
  · exact ⟨_, _, _, rfl⟩
  · exact ⟨_, _, _, rfl⟩
/-- What is said of a writer's call that writes these bytes. -/
def Wrote (b : Nat) (v : Value) (l m : List UInt8) (w : World) (e : Ending) (w' : World) : Prop :=
  e = .returned (.tuple #[]) ∧ ∃ v', WrAt w' b v' (l ++ m) ∧ WrGrew w b v w' v'

set_option maxHeartbeats 4000000 in
set_option maxRecDepth 100000 in
theorem wnum_any (b ab off cap : Nat) (v : Value) (l : List UInt8) (ns : List Nat) (w : World) (hw : WrAt w b v l) (hab : ab ≠ b) (hav : v.ownBlock ≠ some ab)
    (hc : ∀ j, j < ns.length → w.cell? ⟨ab, off + j, none⟩ = some (.int .u64 (ns.getD j 0))) (hn : ∀ x ∈ ns, x < 18446744073709551616) (hlim : l.length + 10 * ns.length ≤ 140737488355328) :
    Calls Tryz.prog 246 #[.pointer (some ⟨b, 0, none⟩), .slice (some ⟨ab, off, none⟩) ns.length cap] w (Wrote b v l (nums ns) w) := by
  obtain ⟨n, hnn⟩ : ∃ n, n = ns.length := ⟨_, rfl⟩
  rw [← hnn]
  have HN := Lib.hid hnn
  have HL := Lib.hid hlim
  have HC := Lib.hid hc
  have HX := Lib.hid hn
  have hn1 : n ≤ 140737488355328 := by omega
  clear hnn hlim hc hn
  go_enter Tryz.func246, Tryz.ntmps246
  go_wp2
  go_loopw [8] (fun vi wr => ∃ (k : Nat) (v' : Value), k ≤ n ∧ vi = .int .i64 k ∧ WrAt wr b v' (l ++ nums (ns.take k)) ∧ WrGrew w b v wr v') (fun vi _ => n - (intOf vi).toNat)
  case atStart => exact ⟨0, v, Nat.zero_le _, rfl, by simpa [nums] using hw, WrGrew.refl _ _ _⟩
  case round =>
    obtain ⟨k, v', hk, rfl, hwr, hgr⟩ := hrel
    by_cases hlt : k < n
    · have hkn : k < ns.length := by have := HN.out; omega
      have hcell : wr.cell? ⟨ab, off + k, none⟩ = some (.int .u64 (ns.getD k 0)) := hgr.keeps hab hav (HC.out k hkn)
      obtain ⟨x, hx⟩ : ∃ x, x = ns.getD k 0 := ⟨_, rfl⟩
      rw [← hx] at hcell
      have hx64 : x < 18446744073709551616 := by rw [hx, List.getD_eq_getElem?_getD, List.getElem?_eq_getElem hkn]; exact HX.out _ (List.getElem_mem hkn)
      have HXX := Lib.hid hx
      clear hx
      have hc0 := hwr.c0
      have hlen : (l ++ nums (ns.take k)).length + 10 ≤ 140737488355328 := by
        have h1 := nums_le (ns.take k) (fun y hy => HX.out y (List.mem_of_mem_take hy))
        have h2 := HL.out
        have h3 : (ns.take k).length ≤ k := List.length_take_le _ _
        rw [List.length_append]
        omega
      have hcontract := appendVar_any x hx64 v' _ wr hwr.row hlen
      have HK := Lib.hid hlen
      clear hlen
      have HCT := Lib.hid hcontract
      clear hcontract
      go_wp2_with (go_at_call 272; refine HCT.out.mono ?_; rintro e w1 ⟨v2, rfl, hr2, hg2⟩; have hbk := hg2.only.heap hwr.blk (fun e => hwr.ne b e rfl); have hfr : w1.frozen? ⟨b, 0, none⟩ = false := free_of_one hbk; have hcw := cell_of_one hbk; clear hbk; obtain ⟨ao2, m2, c2, rfl⟩ := row_shape hr2)
      obtain ⟨R, G⟩ := hwr.step hgr hg2 hr2
      rw [List.append_assoc, HXX.out, ← nums_snoc ns k hkn] at R
      go_roundw
      case rel => exact ⟨k + 1, _, by omega, by go_num, R, G⟩
      case measure => simp [intOf]; omega
    · have hkn : ns.take k = ns := List.take_of_length_le (by have := HN.out; omega)
      rw [hkn] at hwr
      clear hkn
      go_wp2
      go_end0
      exact ⟨rfl, v', hwr, hgr⟩

/-- One number. -/
theorem wnum_one (b ab : Nat) (v : Value) (l : List UInt8) (x : Nat) (w : World) (hw : WrAt w b v l) (hab : ab ≠ b) (hav : v.ownBlock ≠ some ab)
    (hc : w.cell? ⟨ab, 0, none⟩ = some (.int .u64 x)) (hn : x < 18446744073709551616) (hlim : l.length + 10 ≤ 140737488355328) :
    Calls Tryz.prog 246 #[.pointer (some ⟨b, 0, none⟩), .slice (some ⟨ab, 0, none⟩) 1 1] w (Wrote b v l (Lib.uvarint x) w) := by
  have h := wnum_any b ab 0 1 v l [x] w hw hab hav (fun j hj => by (obtain rfl : j = 0 := (by simpa using hj)); simpa using hc) (fun y hy => by simp at hy; omega) (by simpa using hlim)
  simpa [nums] using h
theorem WrAt.notNew {w : World} {b : Nat} {v : Value} {l : List UInt8} (h : WrAt w b v l) : w.heap.size ≠ b ∧ v.ownBlock ≠ some w.heap.size := by
  have h1 := lt_of_block h.blk
  refine ⟨by omega, fun e => ?_⟩
  have := (h.row.lt _ e).2
  omega

/-- The signed varints of numbers, one behind the other. -/
def ints (ns : List Int) : List UInt8 := ns.flatMap fun n => Lib.uvarint (Lib.zigzag n)
theorem ints_le (ns : List Int) (h : ∀ x ∈ ns, -9223372036854775808 ≤ x ∧ x ≤ 9223372036854775807) : (ints ns).length ≤ 10 * ns.length := by
  induction ns with
  | nil => simp [ints]
  | cons x r ih =>
    have h0 := h x (by simp)
    have h1 := Lib.uvarint_length64 (Lib.zigzag_lt h0.1 h0.2)
    have h2 := ih (fun y hy => h y (by simp [hy]))
    simp only [ints, List.flatMap_cons, List.length_append, List.length_cons] at h2 ⊢
    omega
theorem ints_snoc (ns : List Int) (k : Nat) (hk : k < ns.length) : ints (ns.take (k + 1)) = ints (ns.take k) ++ Lib.uvarint (Lib.zigzag (ns.getD k 0)) := by
  rw [List.take_succ_eq_append_getElem hk]
  unfold ints
  rw [List.flatMap_append]
  simp [hk]

set_option maxHeartbeats 4000000 in
set_option maxRecDepth 100000 in
theorem wint_any (b ab off cap : Nat) (v : Value) (l : List UInt8) (ns : List Int) (w : World) (hw : WrAt w b v l) (hab : ab ≠ b) (hav : v.ownBlock ≠ some ab)
    (hc : ∀ j, j < ns.length → w.cell? ⟨ab, off + j, none⟩ = some (.int .i64 (ns.getD j 0))) (hn : ∀ x ∈ ns, -9223372036854775808 ≤ x ∧ x ≤ 9223372036854775807) (hlim : l.length + 10 * ns.length ≤ 140737488355328) :
    Calls Tryz.prog 249 #[.pointer (some ⟨b, 0, none⟩), .slice (some ⟨ab, off, none⟩) ns.length cap] w (Wrote b v l (ints ns) w) := by
  obtain ⟨n, hnn⟩ : ∃ n, n = ns.length := ⟨_, rfl⟩
  rw [← hnn]
  have HN := Lib.hid hnn
  have HL := Lib.hid hlim
  have HC := Lib.hid hc
  have HX := Lib.hid hn
  have hn1 : n ≤ 140737488355328 := by omega
  clear hnn hlim hc hn
  go_enter Tryz.func249, Tryz.ntmps249
  go_wp2
  go_loopw [8] (fun vi wr => ∃ (k : Nat) (v' : Value), k ≤ n ∧ vi = .int .i64 k ∧ WrAt wr b v' (l ++ ints (ns.take k)) ∧ WrGrew w b v wr v') (fun vi _ => n - (intOf vi).toNat)
  case atStart => exact ⟨0, v, Nat.zero_le _, rfl, by simpa [ints] using hw, WrGrew.refl _ _ _⟩
  case round =>
    obtain ⟨k, v', hk, rfl, hwr, hgr⟩ := hrel
    by_cases hlt : k < n
    · have hkn : k < ns.length := by have := HN.out; omega
      have hcell : wr.cell? ⟨ab, off + k, none⟩ = some (.int .i64 (ns.getD k 0)) := hgr.keeps hab hav (HC.out k hkn)
      obtain ⟨x, hx⟩ : ∃ x, x = ns.getD k 0 := ⟨_, rfl⟩
      rw [← hx] at hcell
      have hxb : -9223372036854775808 ≤ x ∧ x ≤ 9223372036854775807 := by rw [hx, List.getD_eq_getElem?_getD, List.getElem?_eq_getElem hkn]; exact HX.out _ (List.getElem_mem hkn)
      have HXX := Lib.hid hx
      have HXB := Lib.hid hxb
      clear hx hxb
      have hlen : (l ++ ints (ns.take k)).length + 10 ≤ 140737488355328 := by
        have h1 := ints_le (ns.take k) (fun y hy => HX.out y (List.mem_of_mem_take hy))
        have h2 := HL.out
        have h3 : (ns.take k).length ≤ k := List.length_take_le _ _
        rw [List.length_append]
        omega
      have HZ := Lib.hid (zig_any x wr HXB.out.1 HXB.out.2)
      obtain ⟨z, hz⟩ : ∃ z, z = Lib.zigzag x := ⟨_, rfl⟩
      rw [← hz] at HZ
      have hz64 : z < 18446744073709551616 := by rw [hz]; exact Lib.zigzag_lt HXB.out.1 HXB.out.2
      have HZZ := Lib.hid hz
      clear hz
      have hnew := hwr.notNew
      have HCT := Lib.hid (wnum_one b wr.heap.size v' _ z (wr.alloc (.cells #[.int .u64 z] 213)) (hwr.alloc _) hnew.1 hnew.2 (by simp) hz64 hlen)
      have HK := Lib.hid hlen
      clear hlen hnew
      go_wp2_with (first | (go_at_call 274; refine HZ.out.mono ?_; rintro e w1 ⟨rfl, rfl⟩) | (go_at_call 246; refine HCT.out.mono ?_; rintro e w1 ⟨rfl, v2, hr2, hg2⟩))
      rw [List.append_assoc, HZZ.out, HXX.out, ← ints_snoc ns k hkn] at hr2
      go_roundw
      case rel => exact ⟨k + 1, _, by omega, by go_num, hr2, (hgr.alloc _).trans hg2⟩
      case measure => simp [intOf]; omega
    · have hkn : ns.take k = ns := List.take_of_length_le (by have := HN.out; omega)
      rw [hkn] at hwr
      clear hkn
      go_wp2
      go_end0
      exact ⟨rfl, v', hwr, hgr⟩
theorem wint_one (b ab : Nat) (v : Value) (l : List UInt8) (x : Int) (w : World) (hw : WrAt w b v l) (hab : ab ≠ b) (hav : v.ownBlock ≠ some ab)
    (hc : w.cell? ⟨ab, 0, none⟩ = some (.int .i64 x)) (hn : -9223372036854775808 ≤ x ∧ x ≤ 9223372036854775807) (hlim : l.length + 10 ≤ 140737488355328) :
    Calls Tryz.prog 249 #[.pointer (some ⟨b, 0, none⟩), .slice (some ⟨ab, 0, none⟩) 1 1] w (Wrote b v l (Lib.uvarint (Lib.zigzag x)) w) := by
  have h := wint_any b ab 0 1 v l [x] w hw hab hav (fun j hj => by (obtain rfl : j = 0 := (by simpa using hj)); simpa using hc) (fun y hy => by simp at hy; omega) (by simpa using hlim)
  simpa [ints] using h
end Go.Proofs.YtpincofjopmaaaaGreatDoor
namespace Go.Proofs.YtpincofjopmaaaaGreatDoor
open Go.RowKit
def flagByte (f : Bool) : UInt8 := if f then 1 else 0
set_option maxHeartbeats 4000000 in
set_option maxRecDepth 100000 in
theorem wflag_any (b ab off cap : Nat) (v : Value) (l : List UInt8) (fs : List Bool) (w : World) (hw : WrAt w b v l) (hab : ab ≠ b) (hav : v.ownBlock ≠ some ab)
    (hc : ∀ j, j < fs.length → w.cell? ⟨ab, off + j, none⟩ = some (.bool (fs.getD j false))) (hlim : l.length + fs.length ≤ 140737488355328) :
    Calls Tryz.prog 209 #[.pointer (some ⟨b, 0, none⟩), .slice (some ⟨ab, off, none⟩) fs.length cap] w (Wrote b v l (fs.map flagByte) w) := by
  obtain ⟨i0, hi, hz0, hz1, hz2⟩ := info_parts info_u8
  obtain ⟨n, hnn⟩ : ∃ n, n = fs.length := ⟨_, rfl⟩
  rw [← hnn]
  have HN := Lib.hid hnn
  have HL := Lib.hid hlim
  have HC := Lib.hid hc
  have hn1 : n ≤ 140737488355328 := by omega
  clear hnn hlim hc
  go_enter Tryz.func209, Tryz.ntmps209
  go_wp2
  go_loopw [9] (fun vi wr => ∃ (k : Nat) (v' : Value), k ≤ n ∧ vi = .int .i64 k ∧ WrAt wr b v' (l ++ (fs.take k).map flagByte) ∧ WrGrew w b v wr v') (fun vi _ => n - (intOf vi).toNat)
  case atStart => exact ⟨0, v, Nat.zero_le _, rfl, by simpa using hw, WrGrew.refl _ _ _⟩
  case round =>
    obtain ⟨k, v', hk, rfl, hwr, hgr⟩ := hrel
    by_cases hlt : k < n
    · have hkn : k < fs.length := by have := HN.out; omega
      have hcell : wr.cell? ⟨ab, off + k, none⟩ = some (.bool (fs.getD k false)) := hgr.keeps hab hav (HC.out k hkn)
      have hsn : l ++ (fs.take (k + 1)).map flagByte = (l ++ (fs.take k).map flagByte) ++ [flagByte (fs.getD k false)] := by
        rw [List.take_succ_eq_append_getElem hkn, List.map_append, List.append_assoc, List.getD_eq_getElem?_getD, List.getElem?_eq_getElem hkn]
        rfl
      have hlen : (l ++ (fs.take k).map flagByte).length + 1 ≤ 140737488355328 := by
        have h2 := HL.out
        have h3 : (fs.take k).length ≤ k := List.length_take_le _ _
        rw [List.length_append, List.length_map]
        omega
      obtain ⟨x, hx⟩ : ∃ x, x = fs.getD k false := ⟨_, rfl⟩
      rw [← hx] at hcell hsn
      have hc0 := hwr.c0
      obtain ⟨L, hL⟩ : ∃ L, L = l ++ (fs.take k).map flagByte := ⟨_, rfl⟩
      rw [← hL] at hwr hsn hlen
      have HSN := Lib.hid hsn
      clear hx hsn hL
      have hfr := hwr.free
      cases x
      · go_wp2_with (at_builtin; refine wpList_append_fine _ rfl _ _ 71 rfl 5 i0 (.int .u8 0) 1 1 Tryz.underlying71 hi hz0 hz1 hz2 rfl (by decide) _ _ _ rfl (hwr.row.alloc _) ⟨wr.heap.size, 0, none⟩ 1 1 [Value.int .u8 0] rfl rfl ?c1 ?c2 ?c3 ?c4 ?_)
        case c1 =>
          intro j u hj
          match j, hj with
          | 0, hj => simp at hj; subst hj; simp [Addr.add]
        case c2 => intro u hu; simp at hu; subst hu; rfl
        case c3 => unfold maxLen; omega
        case c4 => omega
        intro v2 w1 hr2 hg2
        have hgg : Grew wr v' w1 v2 := ((Grew.refl _ _).alloc _).trans hg2
        have hbk := hgg.only.heap hwr.blk (fun e => hwr.ne b e rfl)
        have hfr1 : w1.frozen? ⟨b, 0, none⟩ = false := free_of_one hbk
        have hcw := cell_of_one hbk
        obtain ⟨ao2, m2, c2, rfl⟩ := row_shape hr2
        obtain ⟨R, G⟩ := hwr.step (l' := L ++ [flagByte false]) hgr hgg (by simpa [RowIs, Lib.byteCells, flagByte] using hr2)
        rw [← HSN.out] at R
        clear hr2 hg2 hgg hbk
        go_wp2
        go_roundw
        case rel => exact ⟨k + 1, _, by omega, by go_num, R, G⟩
        case measure => simp [intOf]; omega
      · go_wp2_with (at_builtin; refine wpList_append_fine _ rfl _ _ 71 rfl 5 i0 (.int .u8 0) 1 1 Tryz.underlying71 hi hz0 hz1 hz2 rfl (by decide) _ _ _ rfl (hwr.row.alloc _) ⟨wr.heap.size, 0, none⟩ 1 1 [Value.int .u8 1] rfl rfl ?d1 ?d2 ?d3 ?d4 ?_)
        case d1 =>
          intro j u hj
          match j, hj with
          | 0, hj => simp at hj; subst hj; simp [Addr.add]
        case d2 => intro u hu; simp at hu; subst hu; rfl
        case d3 => unfold maxLen; omega
        case d4 => omega
        intro v2 w1 hr2 hg2
        have hgg : Grew wr v' w1 v2 := ((Grew.refl _ _).alloc _).trans hg2
        have hbk := hgg.only.heap hwr.blk (fun e => hwr.ne b e rfl)
        have hfr1 : w1.frozen? ⟨b, 0, none⟩ = false := free_of_one hbk
        have hcw := cell_of_one hbk
        obtain ⟨ao2, m2, c2, rfl⟩ := row_shape hr2
        obtain ⟨R, G⟩ := hwr.step (l' := L ++ [flagByte true]) hgr hgg (by simpa [RowIs, Lib.byteCells, flagByte] using hr2)
        rw [← HSN.out] at R
        clear hr2 hg2 hgg hbk
        go_wp2
        go_roundw
        case rel => exact ⟨k + 1, _, by omega, by go_num, R, G⟩
        case measure => simp [intOf]; omega
    · have hkn : fs.take k = fs := List.take_of_length_le (by have := HN.out; omega)
      rw [hkn] at hwr
      clear hkn
      go_wp2
      go_end0
      exact ⟨rfl, v', hwr, hgr⟩

/-- A text's bytes: how many, and these. -/
def textBytes (s : List UInt8) : List UInt8 := Lib.uvarint s.length ++ s
theorem strCells_S (s : List UInt8) : Lib.strCells (S s) = Lib.byteCells s := by simp [Lib.strCells, Lib.byteCells, S]
def texts (ts : List (List UInt8)) : List UInt8 := ts.flatMap textBytes
def textsMost (ts : List (List UInt8)) : Nat := (ts.map fun s => s.length + 10).sum
theorem textBytes_le (s : List UInt8) (h : s.length ≤ 140737488355328) : (textBytes s).length ≤ s.length + 10 := by
  have := Lib.uvarint_length64 (x := s.length) (by omega)
  simp only [textBytes, List.length_append]
  omega
theorem texts_le (ts : List (List UInt8)) (h : ∀ s ∈ ts, s.length ≤ 140737488355328) : (texts ts).length ≤ textsMost ts := by
  induction ts with
  | nil => simp [texts, textsMost]
  | cons x r ih =>
    have h1 := textBytes_le x (h x (by simp))
    have h2 := ih (fun y hy => h y (by simp [hy]))
    simp only [texts, textsMost, List.flatMap_cons, List.length_append, List.map_cons, List.sum_cons] at h2 ⊢
    omega
theorem textsMost_snoc (ts : List (List UInt8)) (k : Nat) (hk : k < ts.length) : textsMost (ts.take k) + ((ts.getD k []).length + 10) ≤ textsMost ts := by
  have e : ts = ts.take k ++ (ts[k] :: ts.drop (k + 1)) := by rw [List.getElem_cons_drop, List.take_append_drop]
  have h : textsMost ts = textsMost (ts.take k ++ (ts[k] :: ts.drop (k + 1))) := congrArg textsMost e
  rw [h, List.getD_eq_getElem?_getD, List.getElem?_eq_getElem hk]
  simp only [textsMost, List.map_append, List.map_cons, List.sum_append, List.sum_cons, Option.getD_some]
  omega
theorem mem_textsMost (ts : List (List UInt8)) (s : List UInt8) (h : s ∈ ts) : s.length ≤ textsMost ts := by
  induction ts with
  | nil => simp at h
  | cons x r ih =>
    simp only [textsMost, List.map_cons, List.sum_cons] at ih ⊢
    rcases List.mem_cons.1 h with rfl | h
    · omega
    · have := ih h; omega
theorem texts_snoc (ts : List (List UInt8)) (k : Nat) (hk : k < ts.length) : texts (ts.take (k + 1)) = texts (ts.take k) ++ textBytes (ts.getD k []) := by
  rw [List.take_succ_eq_append_getElem hk]
  unfold texts
  rw [List.flatMap_append]
  simp [hk]
theorem len_le_textsMost (ts : List (List UInt8)) : ts.length ≤ textsMost ts := by
  induction ts with
  | nil => simp
  | cons x r ih =>
    simp only [textsMost, List.map_cons, List.sum_cons, List.length_cons] at ih ⊢
    omega
set_option maxHeartbeats 4000000 in
set_option maxRecDepth 100000 in
theorem wtext_any (b ab off cap : Nat) (v : Value) (l : List UInt8) (ts : List (List UInt8)) (w : World) (hw : WrAt w b v l) (hab : ab ≠ b) (hav : v.ownBlock ≠ some ab)
    (hc : ∀ j, j < ts.length → w.cell? ⟨ab, off + j, none⟩ = some (.string (S (ts.getD j [])))) (hlim : l.length + textsMost ts ≤ 140737488355328) :
    Calls Tryz.prog 206 #[.pointer (some ⟨b, 0, none⟩), .slice (some ⟨ab, off, none⟩) ts.length cap] w (Wrote b v l (texts ts) w) := by
  obtain ⟨i0, hi, hz0, hz1, hz2⟩ := info_parts info_u8
  obtain ⟨n, hnn⟩ : ∃ n, n = ts.length := ⟨_, rfl⟩
  rw [← hnn]
  have hn1 : n ≤ 140737488355328 := by have := len_le_textsMost ts; omega
  have HN := Lib.hid hnn
  have HL := Lib.hid hlim
  have HC := Lib.hid hc
  clear hnn hlim hc
  go_enter Tryz.func206, Tryz.ntmps206
  go_wp2
  go_loopw [8] (fun vi wr => ∃ (k : Nat) (v' : Value), k ≤ n ∧ vi = .int .i64 k ∧ WrAt wr b v' (l ++ texts (ts.take k)) ∧ WrGrew w b v wr v') (fun vi _ => n - (intOf vi).toNat)
  case atStart => exact ⟨0, v, Nat.zero_le _, rfl, by simpa [texts] using hw, WrGrew.refl _ _ _⟩
  case round =>
    obtain ⟨k, v', hk, rfl, hwr, hgr⟩ := hrel
    by_cases hlt : k < n
    · have hkn : k < ts.length := by have := HN.out; omega
      have hcell : wr.cell? ⟨ab, off + k, none⟩ = some (.string (S (ts.getD k []))) := hgr.keeps hab hav (HC.out k hkn)
      have hsn : l ++ texts (ts.take (k + 1)) = (l ++ texts (ts.take k)) ++ textBytes (ts.getD k []) := by rw [texts_snoc ts k hkn, List.append_assoc]
      have hlen : (l ++ texts (ts.take k)).length + ((ts.getD k []).length + 10) ≤ 140737488355328 := by
        have h2 := HL.out
        have h3 := textsMost_snoc ts k hkn
        have h4 := texts_le (ts.take k) (fun s hs => by have := mem_textsMost ts s (List.mem_of_mem_take hs); omega)
        rw [List.length_append]
        omega
      obtain ⟨s, hs⟩ : ∃ s, s = ts.getD k [] := ⟨_, rfl⟩
      rw [← hs] at hcell hsn hlen
      obtain ⟨L, hL⟩ : ∃ L, L = l ++ texts (ts.take k) := ⟨_, rfl⟩
      rw [← hL] at hwr hsn hlen
      have HSN := Lib.hid hsn
      clear hs hsn hL
      obtain ⟨z, hz⟩ : ∃ z, z = s.length := ⟨_, rfl⟩
      have hz64 : z < 18446744073709551616 := by omega
      have hzi : z ≤ 140737488355328 := by omega
      have hsz : ((S s).size : Int) = (z : Int) := by rw [S_size, hz]
      have HZZ := Lib.hid hz
      have hnew := hwr.notNew
      have HCT := Lib.hid (wnum_one b wr.heap.size v' _ z (wr.alloc (.cells #[.int .u64 z] 213)) (hwr.alloc _) hnew.1 hnew.2 (by simp) hz64 (by omega))
      have HK := Lib.hid hlen
      have hl2 : (L ++ Lib.uvarint z).length + (S s).size ≤ 140737488355328 := by
        have := Lib.uvarint_length64 hz64
        rw [List.length_append, S_size]
        omega
      have HL2 := Lib.hid hl2
      clear hlen hnew hz hl2
      go_wp2_with (first | (go_at_call 246; refine HCT.out.mono ?_; rintro e w1 ⟨rfl, v2, hr2, hg2⟩; have hc2 := hr2.c0) | (at_builtin; refine wpList_append_fine_string _ rfl _ _ 71 9 rfl 5 i0 Tryz.underlying71 Tryz.underlying9 hi hz0 hz1 hz2 _ _ _ rfl hr2.row (S s) rfl (Nat.le_trans HL2.out (by decide)) HL2.out ?_; intro v3 w3 hr3 hg3; have hbk := hg3.only.heap hr2.blk (fun e => hr2.ne b e rfl); have hfr : w3.frozen? ⟨b, 0, none⟩ = false := free_of_one hbk; have hcw := cell_of_one hbk; clear hbk; obtain ⟨ao3, m3, c3, rfl⟩ := row_shape hr3))
      obtain ⟨R, G⟩ := hr2.step (l' := L ++ textBytes s) ((hgr.alloc _).trans hg2) hg3 (by
        have e1 : (L ++ textBytes s).length = (L ++ Lib.uvarint z).length + (S s).size := by rw [S_size, textBytes, HZZ.out]; simp; omega
        have e2 : Lib.byteCells (L ++ textBytes s) = Lib.byteCells (L ++ Lib.uvarint z) ++ Lib.strCells (S s) := by rw [strCells_S, textBytes, HZZ.out, ← byteCells_append, List.append_assoc]
        unfold RowIs
        rw [e1, e2]
        exact hr3)
      rw [← HSN.out] at R
      go_roundw
      case rel => exact ⟨k + 1, _, by omega, by go_num, R, G⟩
      case measure => simp [intOf]; omega
    · have hkn : ts.take k = ts := List.take_of_length_le (by have := HN.out; omega)
      rw [hkn] at hwr
      clear hkn
      go_wp2
      go_end0
      exact ⟨rfl, v', hwr, hgr⟩
theorem wbytes_any (b : Nat) (v : Value) (l : List UInt8) (w : World) (hw : WrAt w b v l) (hlim : l.length ≤ 140737488355328) :
    Calls Tryz.prog 207 #[.pointer (some ⟨b, 0, none⟩)] w fun e w' => ∃ v', e = .returned v' ∧ RowIs w' v' l ∧ Below w.heap.size w w' ∧ (∀ g, v'.ownBlock = some g → w.heap.size ≤ g) := by
  have hc0 := hw.c0
  have HCT := Lib.hid (clone_any v l w (.ofRow hw.row) hlim)
  go_enter Tryz.func207, Tryz.ntmps207
  go_wp2_with (go_at_call 158; refine HCT.out.mono ?_; rintro e w1 ⟨v2, rfl, h1, h2, h3⟩)
  go_ret
  exact ⟨v2, rfl, h1, h2, h3⟩
theorem wtext_one (b ab : Nat) (v : Value) (l s : List UInt8) (w : World) (hw : WrAt w b v l) (hab : ab ≠ b) (hav : v.ownBlock ≠ some ab)
    (hc : w.cell? ⟨ab, 0, none⟩ = some (.string (S s))) (hlim : l.length + (s.length + 10) ≤ 140737488355328) :
    Calls Tryz.prog 206 #[.pointer (some ⟨b, 0, none⟩), .slice (some ⟨ab, 0, none⟩) 1 1] w (Wrote b v l (textBytes s) w) := by
  have h := wtext_any b ab 0 1 v l [s] w hw hab hav (fun j hj => by (obtain rfl : j = 0 := (by simpa using hj)); simpa using hc) (by simpa [textsMost] using hlim)
  simpa [texts] using h
theorem wflag_one (b ab : Nat) (v : Value) (l : List UInt8) (f : Bool) (w : World) (hw : WrAt w b v l) (hab : ab ≠ b) (hav : v.ownBlock ≠ some ab)
    (hc : w.cell? ⟨ab, 0, none⟩ = some (.bool f)) (hlim : l.length + 1 ≤ 140737488355328) :
    Calls Tryz.prog 209 #[.pointer (some ⟨b, 0, none⟩), .slice (some ⟨ab, 0, none⟩) 1 1] w (Wrote b v l [flagByte f] w) := by
  have h := wflag_any b ab 0 1 v l [f] w hw hab hav (fun j hj => by (obtain rfl : j = 0 := (by simpa using hj)); simpa using hc) (by simpa using hlim)
  simpa using h
end Go.Proofs.YtpincofjopmaaaaGreatDoor
