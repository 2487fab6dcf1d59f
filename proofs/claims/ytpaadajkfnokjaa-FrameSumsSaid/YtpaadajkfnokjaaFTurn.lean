/-
  The contract of frame.Turn: new memory, in which bytes are turned by others from one place on.
  Conditions: the place is within 2^40 of nought, there are fewer than 2^40 bytes of each.
-/
import Derived.Test.YtpaadajkfnokjaaStr
import Derived.Test.YtpaadajkfnokjaaBits
import Derived.Test.YtpaadajkfnokjaaTurnL
import Derived.RegionTactic
namespace Go.Proofs.Ytpaadajkfnokjaa
open Go.RowKit

/-- Go's append of bytes onto nothing. -/
theorem append_copy (w : World) (ty : TypeId) (sv : Value) (l : List UInt8) (hs : SrcIs w sv l) (hlim : l.length ≤ 140737488355328) :
    ∃ v' w', (Builtin.append_ #[25, 25] ty #[.slice none 0 0, sv]).run Try.prog w = .ok v' w' ∧ BS w w' v' l := by
  by_cases hl : 0 < l.length
  · rcases hs with ⟨_, rfl⟩ | ⟨a, cap, rfl, hc⟩
    · simp at hl
    · exact append_full w ty _ [] l a cap (.inl ⟨rfl, rfl⟩) hc hl (by simpa using hlim)
  · have : l = [] := List.eq_nil_of_length_eq_zero (by omega)
    subst this
    obtain ⟨i0, hi, hz0, hz1, hz2⟩ := info_parts info_u8
    refine ⟨.slice none 0 0, w, ?_, ⟨World.ownsRow_nil _ _ _ _, fun g hg => by simp [Value.ownBlock] at hg, Below.refl _ _⟩⟩
    rcases hs with ⟨rfl, _⟩ | ⟨a, cap, rfl, _⟩
    · simp [Builtin.append_, run_underlying Try.underlying25, sizeOf, typeInfo, hi, Builtin.lenOf, Builtin.firstCells]
    · simp [Builtin.append_, run_underlying Try.underlying25, sizeOf, typeInfo, hi, Builtin.lenOf, Builtin.firstCells, loadCells, loadCellsFrom]
/-- What a row of the call's own looks like. -/
theorem BS.form {w0 w : World} {v : Value} {l : List UInt8} (h : BS w0 w v l) (hl : 0 < l.length) : ∃ g cap, v = .slice (some ⟨g, 0, none⟩) l.length cap ∧ w0.heap.size ≤ g := by
  rcases h.row.2 with ⟨rfl, h0⟩ | ⟨g, cap, cur, rfl, hb, hgg, rest⟩
  · omega
  · exact ⟨g, cap, rfl, h.own g rfl⟩
theorem BS.shape {w0 w : World} {v : Value} {l : List UInt8} (h : BS w0 w v l) : ∃ ao cap, v = .slice ao l.length cap ∧ (0 < l.length → ∃ g, ao = some ⟨g, 0, none⟩) := by
  rcases h.row.2 with ⟨rfl, h0⟩ | ⟨g, cap, cur, rfl, hb, hgg, rest⟩
  · exact ⟨none, 0, by rw [h0], fun hl => by omega⟩
  · exact ⟨some ⟨g, 0, none⟩, cap, rfl, fun _ => ⟨g, rfl⟩⟩
theorem BS.cell {w0 w : World} {g n cap : Nat} {l : List UInt8} (h : BS w0 w (.slice (some ⟨g, 0, none⟩) n cap) l) (i : Nat) (hi : i < l.length) : w.cell? ⟨g, i, none⟩ = some (.int .u8 (l.getD i 0).toNat) := by
  have hn : n = l.length := by
    rcases h.row.2 with ⟨h0, _⟩ | ⟨g', cap', cur, he, _⟩
    · simp at h0
    · simp at he
      exact he.2.1
  subst hn
  have hr := h.row.cellAt i (by omega)
  rw [hr, byteCells_at, List.getElem?_eq_getElem hi]
  simp [List.getD, List.getElem?_eq_getElem hi]
theorem BS.free {w0 w : World} {g n cap : Nat} {l : List UInt8} (h : BS w0 w (.slice (some ⟨g, 0, none⟩) n cap) l) (i : Nat) : w.frozen? ⟨g, i, none⟩ = false := by
  rcases h.row.2 with ⟨h0, _⟩ | ⟨g', cap', cur, he, hb, hgg, rest⟩
  · simp at h0
  · simp at he
    obtain ⟨rfl, rfl, rfl⟩ := he
    simp [World.frozen?, hgg]
/-- One byte is written. -/
theorem BS.set {w0 w : World} {g n cap : Nat} {l : List UInt8} (h : BS w0 w (.slice (some ⟨g, 0, none⟩) n cap) l) (i : Nat) (c : UInt8) : BS w0 (w.setCell ⟨g, i, none⟩ (.int .u8 c.toNat)) (.slice (some ⟨g, 0, none⟩) n cap) (l.set i c) := by
  rcases h.row.2 with ⟨h0, _⟩ | ⟨g', cap', cur, he, hb, hgg, hnc, hcm, hcs, htake⟩
  · simp at h0
  · simp at he
    obtain ⟨rfl, rfl, rfl⟩ := he
    refine ⟨⟨by rw [byteCells_length, Nat.mul_one], .inr ⟨g, cap, cur.setIfInBounds i (.int .u8 c.toNat), by rw [List.length_set], Nat.zero_le _, heap_setCell_self hgg, by rw [List.length_set]; exact hnc, hcm, by simpa using hcs, ?_⟩⟩, h.own, h.bel.setCell (h.own g rfl) _⟩
    rw [Nat.mul_one] at htake ⊢
    rw [List.length_set, Array.toList_setIfInBounds, List.take_set, htake]
    simp [Lib.byteCells, List.map_set]
set_option maxHeartbeats 400000 in
set_option maxRecDepth 100000 in
theorem turn_some (l y : List UInt8) (at_ : Int) (bv : Value) (b off cap : Nat) (w : World) (hsrc : SrcIs w bv l) (h0 : -1099511627776 ≤ at_) (h1 : at_ ≤ 1099511627776) (hl : l.length ≤ 1099511627776) (hy : y.length ≤ 1099511627776)
    (hc : ∀ j, j < y.length → w.cell? ⟨b, off + j, none⟩ = some (.int .u8 (y.getD j 0).toNat)) :
    Calls Try.prog 18 #[bv, .int .i64 at_, .slice (some ⟨b, off, none⟩) y.length cap] w fun e w' => ∃ v', e = .returned v' ∧ BS w w' v' (turnL l at_ y) := by
  obtain ⟨v', w1, hrun, hbs⟩ := append_copy w 25 bv l hsrc (by omega)
  obtain ⟨ao, c', rfl, hao⟩ := hbs.shape
  obtain ⟨n, hn⟩ : ∃ n, n = y.length := ⟨_, rfl⟩
  rw [← hn]
  obtain ⟨m, hm⟩ : ∃ m, m = l.length := ⟨_, rfl⟩
  rw [← hm] at hrun hbs hao
  have hm40 : m ≤ 1099511627776 := by omega
  have hn40 : n ≤ 1099511627776 := by omega
  have HM := Lib.hid hm
  have HAO := Lib.hid hao
  clear hm hao hl hy
  have HN := Lib.hid hn
  have HC := Lib.hid hc
  have HB := Lib.hid hbs
  have HRUN := Lib.hid hrun
  clear hn hc hbs hsrc hrun
  go_enter Try.func18, Try.ntmps18
  go_wp2_with (at_builtin; refine wpList_append_eq (by rfl) _ _ 25 (by rfl) _ _ (.slice ao m c') w1 (by rfl) (by rfl) HRUN.out ?_)
  clear HRUN
  go_loopw [15] (fun v15 wr => ∃ k : Nat, k ≤ n ∧ v15 = .int .i64 k ∧ BS w wr (.slice ao m c') (turnL l at_ (y.take k))) (fun v15 _ => n - (intOf v15).toNat)
  case atStart => exact ⟨0, Nat.zero_le _, rfl, by rw [List.take_zero, turnL_nil]; exact HB.out⟩
  case round =>
    obtain ⟨k, hk, rfl, hbs⟩ := hrel
    by_cases hlt : k < n
    · have hkl : k < y.length := by have := HN.out; omega
      have hcell : wr.cell? ⟨b, off + k, none⟩ = some (.int .u8 (y.getD k 0).toNat) := (Only.ofBelow (S := fun _ => False) hbs.bel).cell (HC.out k hkl) id
      obtain ⟨c, hcc⟩ : ∃ c, c = y.getD k 0 := ⟨_, rfl⟩
      rw [← hcc] at hcell
      have HCC := Lib.hid hcc
      have HBS := Lib.hid hbs
      clear hcc hbs
      by_cases hneg : at_ + (k : Int) < 0
      · have HS := Lib.hid (turnL_out l at_ y k (.inl hneg))
        go_wp2
        go_roundw
        case rel => exact ⟨k + 1, by omega, by go_num, by rw [HS.out]; exact HBS.out⟩
        case measure => simp [intOf]; omega
      · by_cases hbig : (m : Int) ≤ at_ + (k : Int)
        · have HS := Lib.hid (turnL_out l at_ y k (.inr (by rw [← HM.out]; exact hbig)))
          have hpos : 0 ≤ at_ + (k : Int) := by omega
          go_wp2
          go_roundw
          case rel => exact ⟨k + 1, by omega, by go_num, by rw [HS.out]; exact HBS.out⟩
          case measure => simp [intOf]; omega
        · obtain ⟨i, hi⟩ : ∃ i : Nat, (i : Int) = at_ + k := ⟨(at_ + k).toNat, by omega⟩
          have him : i < m := by omega
          obtain ⟨g, rfl⟩ := HAO.out (by omega)
          have HS := Lib.hid (turnL_in l at_ y k i hi)
          have hil : i < (turnL l at_ (y.take k)).length := by rw [turnL_length, ← HM.out]; exact him
          have hx := HBS.out.cell i hil
          have hfr := HBS.out.free i
          obtain ⟨x, hxx⟩ : ∃ x, x = (turnL l at_ (y.take k)).getD i 0 := ⟨_, rfl⟩
          rw [← hxx] at hx
          have hxor := xor_u8 x c
          have hset := HBS.out.set i (x ^^^ c)
          rw [show (turnL l at_ (y.take k)).set i (x ^^^ c) = turnL l at_ (y.take (k + 1)) by rw [hxx, HCC.out, HS.out], UInt8.toNat_xor] at hset
          have HSET := Lib.hid hset
          have hsum : at_ + (k : Int) = (i : Int) := hi.symm
          have hpos : (0 : Int) ≤ i := by omega
          have him' : (i : Int) < m := by omega
          clear hset hi hneg hbig hil hxx
          go_wp2
          go_roundw
          case rel => exact ⟨k + 1, by omega, by go_num, HSET.out⟩
          case measure => simp [intOf]; omega
    · have hkn : y.take k = y := List.take_of_length_le (by have := HN.out; omega)
      rw [hkn] at hbs
      clear hkn
      go_wp2
      go_ret
      exact ⟨_, rfl, hbs⟩
set_option maxHeartbeats 400000 in
set_option maxRecDepth 100000 in
theorem turn_none (l : List UInt8) (at_ : Int) (bv : Value) (ao : Option Addr) (cap : Nat) (w : World) (hsrc : SrcIs w bv l) (hl : l.length ≤ 1099511627776) :
    Calls Try.prog 18 #[bv, .int .i64 at_, .slice ao 0 cap] w fun e w' => ∃ v', e = .returned v' ∧ BS w w' v' l := by
  obtain ⟨v', w1, hrun, hbs⟩ := append_copy w 25 bv l hsrc (by omega)
  have HRUN := Lib.hid hrun
  clear hrun hsrc
  go_enter Try.func18, Try.ntmps18
  go_wp2_with (at_builtin; refine wpList_append_eq (by rfl) _ _ 25 (by rfl) _ _ v' w1 (by rfl) (by rfl) HRUN.out ?_)
  refine wp_loop_rounds 1 ?_
  rw [rounds_succ]
  go_wp2
  go_ret
  exact ⟨_, rfl, hbs⟩
theorem turn_any (l y : List UInt8) (at_ : Int) (bv yv : Value) (w : World) (hsrc : SrcIs w bv l) (hysrc : SrcIs w yv y) (h0 : -1099511627776 ≤ at_) (h1 : at_ ≤ 1099511627776) (hl : l.length ≤ 1099511627776) (hy : y.length ≤ 1099511627776) :
    Calls Try.prog 18 #[bv, .int .i64 at_, yv] w fun e w' => ∃ v', e = .returned v' ∧ BS w w' v' (turnL l at_ y) := by
  by_cases hl0 : 0 < y.length
  · obtain ⟨b, off, cap, rfl, hc⟩ := hysrc.plain hl0
    exact turn_some l y at_ bv b off cap w hsrc h0 h1 hl hy hc
  · have : y = [] := List.eq_nil_of_length_eq_zero (by omega)
    subst this
    rw [turnL_nil]
    rcases hysrc with ⟨rfl, _⟩ | ⟨a, cap, rfl, _⟩
    · exact turn_none l at_ bv none 0 w hsrc hl
    · exact turn_none l at_ bv (some a) cap w hsrc hl
end Go.Proofs.Ytpaadajkfnokjaa
