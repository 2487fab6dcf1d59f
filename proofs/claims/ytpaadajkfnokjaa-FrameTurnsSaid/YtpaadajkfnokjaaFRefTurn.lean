/-
  The contract of the document's Turn.
  Conditions: the place is within 1000 of nought, both texts have at most 300 bytes.
-/
import Derived.Test.YtpaadajkfnokjaaFTurn
namespace Go.Proofs.Ytpaadajkfnokjaa
open Go.RowKit
/-- What the bytes are in the midst of the document's inner loop. -/
def mids (l : List UInt8) (at_ : Int) (y : List UInt8) (k i : Nat) : List UInt8 := if 0 ≤ at_ + k ∧ at_ + k < i then turnL l at_ (y.take (k + 1)) else turnL l at_ (y.take k)
theorem mids_length (l : List UInt8) (at_ : Int) (y : List UInt8) (k i : Nat) : (mids l at_ y k i).length = l.length := by unfold mids; split <;> exact turnL_length _ _ _
theorem mids_start (l : List UInt8) (at_ : Int) (y : List UInt8) (k : Nat) : mids l at_ y k 0 = turnL l at_ (y.take k) := by unfold mids; rw [if_neg (by omega)]
theorem mids_end (l : List UInt8) (at_ : Int) (y : List UInt8) (k : Nat) : mids l at_ y k l.length = turnL l at_ (y.take (k + 1)) := by
  unfold mids
  by_cases h : 0 ≤ at_ + (k : Int) ∧ at_ + (k : Int) < (l.length : Int)
  · rw [if_pos h]
  · rw [if_neg h, turnL_out l at_ y k (by omega)]
theorem mids_in (l : List UInt8) (at_ : Int) (y : List UInt8) (k i : Nat) (hi : (i : Int) = at_ + k) : mids l at_ y k (i + 1) = (mids l at_ y k i).set i (((mids l at_ y k i).getD i 0) ^^^ y.getD k 0) := by
  unfold mids
  rw [if_pos (by omega), if_neg (by omega)]
  exact turnL_in l at_ y k i hi
theorem mids_out (l : List UInt8) (at_ : Int) (y : List UInt8) (k i : Nat) (hi : (i : Int) ≠ at_ + k) : mids l at_ y k (i + 1) = mids l at_ y k i := by
  unfold mids
  by_cases h : 0 ≤ at_ + (k : Int) ∧ at_ + (k : Int) < (i : Int)
  · rw [if_pos h, if_pos (by omega)]
  · rw [if_neg h, if_neg (by omega)]
/-- Bytes of the call's own, made out of a text: they may be written. -/
structure CS (w0 w : World) (g : Nat) (l : List UInt8) : Prop where
  blk : ∃ cur fz, w.heap[g]? = some (.cells cur 5 fz) ∧ l.length ≤ fz.1 ∧ cur.toList.take l.length = Lib.byteCells l
  own : w0.heap.size ≤ g
  bel : Below w0.heap.size w0 w
theorem CS.cell {w0 w : World} {g : Nat} {l : List UInt8} (h : CS w0 w g l) (i : Nat) (hi : i < l.length) : w.cell? ⟨g, i, none⟩ = some (.int .u8 (l.getD i 0).toNat) := by
  obtain ⟨cur, fz, hb, _, ht⟩ := h.blk
  have h1 : (cur.toList.take l.length)[i]? = (Lib.byteCells l)[i]? := by rw [ht]
  rw [List.getElem?_take, if_pos hi, byteCells_at, List.getElem?_eq_getElem hi] at h1
  simp only [Array.getElem?_toList, Option.map_some] at h1
  simp [World.cell?, hb, h1, List.getD, List.getElem?_eq_getElem hi]
theorem CS.free {w0 w : World} {g : Nat} {l : List UInt8} (h : CS w0 w g l) (i : Nat) (hi : i < l.length) : w.frozen? ⟨g, i, none⟩ = false := by
  obtain ⟨cur, fz, hb, hf, _⟩ := h.blk
  simp [World.frozen?, hb]
  omega
theorem CS.set {w0 w : World} {g : Nat} {l : List UInt8} (h : CS w0 w g l) (i : Nat) (c : UInt8) : CS w0 (w.setCell ⟨g, i, none⟩ (.int .u8 c.toNat)) g (l.set i c) := by
  obtain ⟨cur, fz, hb, hf, ht⟩ := h.blk
  refine ⟨⟨_, fz, heap_setCell_self hb, by rw [List.length_set]; exact hf, ?_⟩, h.own, h.bel.setCell h.own _⟩
  rw [List.length_set, Array.toList_setIfInBounds, List.take_set, ht]
  simp [Lib.byteCells, List.map_set]
theorem CS.drew {w0 w : World} {g : Nat} {l : List UInt8} (h : CS w0 w g l) : CS w0 w.drew g l := ⟨h.blk, h.own, h.bel.drew⟩
theorem CS.src {w0 w : World} {g : Nat} {l : List UInt8} (h : CS w0 w g l) (cap : Nat) : SrcIs w (.slice (some ⟨g, 0, none⟩) l.length cap) l := by
  refine .inr ⟨_, cap, rfl, fun j u hj => ?_⟩
  have hjl : j < l.length := by
    rcases Nat.lt_or_ge j l.length with h | h
    · exact h
    · simp [byteCells_at, List.getElem?_eq_none h] at hj
  have ha : (⟨g, 0, none⟩ : Addr).add j = ⟨g, j, none⟩ := by unfold Addr.add; split <;> simp_all
  rw [ha, h.cell j hjl, ← hj, byteCells_at, List.getElem?_eq_getElem hjl]
  simp [List.getD, List.getElem?_eq_getElem hjl]
theorem back_CS (s : List UInt8) (w : World) : CS w (Lib.bytesWorld w 5 (S s)) w.heap.size s := by
  have hb := Lib.bytesWorld_at_new w 5 (S s)
  have key : ∀ j, j < s.length → (Lib.bytesCells w 5 (S s))[j]? = some (.int .u8 (s.getD j 0).toNat) := fun j hj => by
    have hc := Lib.bytesWorld_cell w 5 (S s) j (by rw [S_size]; exact hj)
    rw [S_list] at hc
    simpa [World.cell?, hb] using hc
  have hsize : s.length ≤ (Lib.bytesCells w 5 (S s)).size := by
    rcases Nat.eq_zero_or_pos s.length with h | h
    · omega
    · have := key (s.length - 1) (by omega)
      rcases Nat.lt_or_ge (s.length - 1) (Lib.bytesCells w 5 (S s)).size with h2 | h2
      · omega
      · rw [Array.getElem?_eq_none h2] at this; cases this
  refine ⟨⟨_, _, hb, hsize, ?_⟩, Nat.le_refl _, below_back s w⟩
  apply List.ext_getElem?
  intro j
  rw [List.getElem?_take, byteCells_at]
  by_cases hj : j < s.length
  · rw [if_pos hj, List.getElem?_eq_getElem hj]
    simp only [Array.getElem?_toList, Option.map_some]
    rw [key j hj]
    simp [List.getD, List.getElem?_eq_getElem hj]
  · rw [if_neg hj, List.getElem?_eq_none (by omega)]
    rfl
set_option maxHeartbeats 400000 in
set_option maxRecDepth 100000 in
theorem refturn_any (l y : List UInt8) (at_ : Int) (w : World) (h0 : -1000 ≤ at_) (h1 : at_ ≤ 1000) (hl : l.length ≤ 300) (hy : y.length ≤ 300) :
    Calls Try.prog 19 #[.string (S l), .int .i64 at_, .string (S y)] w fun e w' => e = .returned (.string (S (turnL l at_ y))) ∧ Below w.heap.size w w' := by
  have hcv := conv_back l w
  have hbs := back_CS l w
  have hsy : ((S y).size : Int) = (y.length : Int) := by rw [S_size]
  generalize Lib.bytesWorld w 5 (S l) = w1 at hcv hbs
  generalize grownCap w l.length 0 5 = cap at hcv
  obtain ⟨n, hn⟩ : ∃ n, n = y.length := ⟨_, rfl⟩
  obtain ⟨m, hm⟩ : ∃ m, m = l.length := ⟨_, rfl⟩
  rw [← hm] at hcv
  rw [← hn] at hsy
  have hm3 : m ≤ 300 := by omega
  have hn3 : n ≤ 300 := by omega
  have HM := Lib.hid hm
  have HN := Lib.hid hn
  have HBS := Lib.hid hbs
  clear hm hn hbs hl hy
  go_enter Try.func19, Try.ntmps19
  go_wp2
  clear hcv
  go_loopw [8] (fun v8 wr => ∃ k : Nat, k ≤ n ∧ v8 = .int .i64 k ∧ CS w wr w.heap.size (turnL l at_ (y.take k))) (fun v8 _ => n - (intOf v8).toNat)
  case atStart => exact ⟨0, Nat.zero_le _, rfl, by rw [List.take_zero, turnL_nil]; exact HBS.out⟩
  case round =>
    obtain ⟨k, hk, rfl, hbs⟩ := hrel
    obtain ⟨wo, rfl⟩ : ∃ wo, wo = wr := ⟨_, rfl⟩
    by_cases hlt : k < n
    · have hkl : k < y.length := by have := HN.out; omega
      have HB2 := Lib.hid hbs
      clear hbs
      go_wp2
      go_loopw [9] (fun v9 wi => ∃ i : Nat, i ≤ m ∧ v9 = .int .i64 i ∧ CS w wi w.heap.size (mids l at_ y k i)) (fun v9 _ => m - (intOf v9).toNat)
      case atStart => exact ⟨0, Nat.zero_le _, rfl, by rw [mids_start]; exact HB2.out⟩
      case round =>
        obtain ⟨i, hi, rfl, hbi⟩ := hrel
        by_cases hlti : i < m
        · by_cases hle : at_ ≤ (i : Int)
          · by_cases heq : (i : Int) - at_ = (k : Int)
            · have HS := Lib.hid (mids_in l at_ y k i (by omega))
              have hil : i < (mids l at_ y k i).length := by rw [mids_length, ← HM.out]; exact hlti
              have hx := hbi.cell i hil
              have hfr := hbi.free i hil
              obtain ⟨x, hxx⟩ : ∃ x, x = (mids l at_ y k i).getD i 0 := ⟨_, rfl⟩
              obtain ⟨c, hcc⟩ : ∃ c, c = y.getD k 0 := ⟨_, rfl⟩
              rw [← hxx] at hx
              have hget : ∀ h : k < (S y).size, (S y)[k]'h = c := fun h => by
                rw [hcc]
                simp [S, List.getD, List.getElem?_eq_getElem hkl]
                rfl
              have hxor := xor_u8 x c
              rw [UInt8.toNat_xor] at hxor
              have hset := hbi.set i (x ^^^ c)
              rw [show (mids l at_ y k i).set i (x ^^^ c) = mids l at_ y k (i + 1) by rw [HS.out, ← hxx, ← hcc], UInt8.toNat_xor] at hset
              have HSET := Lib.hid hset
              have HBI := Lib.hid hbi
              have hi0 : (0 : Int) ≤ i := by omega
              have hi1 : (i : Int) < m := by omega
              clear hset hil hxx hcc hbi
              go_wp2
              go_region
              go_wp2
              go_roundw
              case rel => exact ⟨i + 1, by omega, by go_num, HSET.out.drew⟩
              case measure => simp [intOf]; omega
            · have HS := Lib.hid (mids_out l at_ y k i (by omega))
              have heb : ((i : Int) - at_ == (k : Int)) = false := by rw [beq_eq_false_iff_ne]; exact heq
              have HBI := Lib.hid hbi
              clear hbi
              go_wp2
              go_roundw
              case rel => exact ⟨i + 1, by omega, by go_num, by rw [HS.out]; exact HBI.out⟩
              case measure => simp [intOf]; omega
          · have HS := Lib.hid (mids_out l at_ y k i (by omega))
            have HBI := Lib.hid hbi
            clear hbi
            go_wp2
            go_roundw
            case rel => exact ⟨i + 1, by omega, by go_num, by rw [HS.out]; exact HBI.out⟩
            case measure => simp [intOf]; omega
        · have him : i = l.length := by have := HM.out; omega
          subst him
          rw [mids_end] at hbi
          have HBI := Lib.hid hbi
          clear hbi
          go_wp2
          go_roundw
          case rel => exact ⟨k + 1, by omega, by go_num, HBI.out⟩
          case measure => simp [intOf]; omega
    · have hkn : y.take k = y := List.take_of_length_le (by have := HN.out; omega)
      rw [hkn] at hbs
      have hcv := conv_src (hbs.src cap)
      rw [turnL_length, ← HM.out] at hcv
      clear hkn
      go_wp2
      go_ret
      exact ⟨rfl, hbs.bel⟩
end Go.Proofs.Ytpaadajkfnokjaa
