/-
  The contract of the document's Var, Int, Text and Flag: the bytes as a string.
  Conditions: the number is a uint64.
-/
import Derived.Test.YtfnhobikochfeaaDoorVar
namespace Go.Proofs.YtfnhobikochfeaaDoor
open Go.RowKit
/-- A list of bytes as a string. -/
def S (l : List UInt8) : ByteArray := ⟨l.toArray⟩
theorem S_size (l : List UInt8) : (S l).size = l.length := by simp [S, ByteArray.size]
theorem S_list (l : List UInt8) : (S l).data.toList = l := by simp [S]

theorem S_append (a b : List UInt8) : S a ++ S b = S (a ++ b) := by
  apply ByteArray.ext
  simp [S]
theorem conv_row (w : World) (b n cap : Nat) (l : List UInt8) (hl : l.length = n) (hc : ∀ j, j < n → w.cell? ⟨b, j, none⟩ = (Lib.byteCells l)[j]?) :
    Sem.run Tryd.prog (convert 26 9 (.slice (some ⟨b, 0, none⟩) n cap)) w = .ok (.string (S l)) w := by
  have h := run_convert_bytes_arg (P := Tryd.prog) w 26 5 Tryd.underlying26 Tryd.underlying5 b 0 n cap (l.map fun c => (c.toNat : Int)) (by simpa using hl) (fun i hi => by
    rw [Nat.zero_add, hc i hi, byteCells_at]
    have : i < l.length := by omega
    simp [List.getD, List.getElem?_eq_getElem this]) 9 Tryd.underlying9
  rw [h]
  congr 2
  simp only [strOfNums, S, List.map_map]
  congr 2
  conv => rhs; rw [← List.map_id l]
  apply List.map_congr_left
  intro c _
  simp
theorem conv_one (w : World) (c : UInt8) (z : Int) (hz : z = (c.toNat : Int)) :
    Sem.run Tryd.prog (convert 26 9 (.slice (some ⟨w.heap.size, 0, none⟩) 1 1)) (w.alloc (.cells #[.int .u8 z] 5)) = .ok (.string (S [c])) (w.alloc (.cells #[.int .u8 z] 5)) := by
  refine conv_row _ _ 1 1 [c] rfl (fun j hj => ?_)
  obtain rfl : j = 0 := by omega
  subst hz
  simp [Lib.byteCells]
theorem conv_owned {w : World} {v : Value} {l : List UInt8} (h : RowIs w v l) : Sem.run Tryd.prog (convert 26 9 v) w = .ok (.string (S l)) w := by
  rcases h.2 with ⟨rfl, h0⟩ | ⟨g, cap, cur, rfl, hb, hgg, hn, _, hcs, htake⟩
  · have : l = [] := List.eq_nil_of_length_eq_zero h0
    subst this
    exact run_convert_bytes_nil (P := Tryd.prog) w 26 5 Tryd.underlying26 Tryd.underlying5 0 0 9 Tryd.underlying9
  · exact conv_row w g l.length cap l rfl (fun j hj => h.cellAt j (by omega))

set_option maxHeartbeats 4000000 in
set_option maxRecDepth 100000 in
theorem refvar_any (x : Nat) (hx : x < 18446744073709551616) (w : World) :
    Calls Tryd.prog 16 #[.int .u64 x] w fun e w' => e = .returned (.string (S (Lib.uvarint x))) ∧ Below w.heap.size w w' := by
  have hlen := Lib.uvarint_length64 hx
  go_enter Tryd.func16, Tryd.ntmps16
  go_wp2
  go_loopw [0, 3] (fun vx vs wr => ∃ (y : Nat) (pre : List UInt8), vx = .int .u64 y ∧ vs = .string (S pre) ∧ y ≤ x ∧ Lib.uvarint x = pre ++ Lib.uvarint y ∧ Below w.heap.size w wr)
    (fun vx _ _ => (intOf vx).toNat)
  case atStart => exact ⟨x, [], rfl, rfl, Nat.le_refl _, rfl, Below.refl _ _⟩
  case round =>
    obtain ⟨y, pre, rfl, rfl, hy, hsplit, hnx⟩ := hrel
    have hpl : pre.length + (Lib.uvarint y).length ≤ 10 := by
      have h2 := congrArg List.length hsplit
      rw [List.length_append] at h2
      omega
    have hsz := hnx.size
    have hps : (S pre).size ≤ 10 := by rw [S_size]; omega
    have HS := Lib.hid hsplit
    clear hsplit hpl
    by_cases h128 : 128 ≤ y
    · obtain ⟨c, hc⟩ : ∃ c, c = (y % 128 + 128).toUInt8 := ⟨_, rfl⟩
      have hcv := conv_one wr c ((y : Int) % 128 + 128) (by rw [hc, Lib.toUInt8_toNat (by omega)]; omega)
      have hcs : (S [c]).size ≤ 1 := by rw [S_size]; exact Nat.le_refl _
      have HC := Lib.hid hc
      clear hc
      go_wp2
      go_roundw
      case rel => exact ⟨y / 128, pre ++ [c], by go_num, by rw [S_append], by omega, by rw [HS.out, Lib.uvarint_big h128, HC.out]; simp, hnx.alloc hsz _⟩
      case measure => simp [intOf]; omega
    · obtain ⟨c, hc⟩ : ∃ c, c = y.toUInt8 := ⟨_, rfl⟩
      have hcv := conv_one wr c (y : Int) (by rw [hc, Lib.toUInt8_toNat (by omega)])
      have hcs : (S [c]).size ≤ 1 := by rw [S_size]; exact Nat.le_refl _
      have HC := Lib.hid hc
      clear hc
      go_wp2
      go_ret
      exact ⟨by rw [HS.out, Lib.uvarint_small (by omega), ← HC.out, ← S_append]; rfl, hnx.alloc hsz _⟩
end Go.Proofs.YtfnhobikochfeaaDoor
