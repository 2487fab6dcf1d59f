/-
  The contract of the laws' awake: the chapter's examples come out as the chapter says.
  Conditions: none.
-/
import Derived.Test.YtpaadajkfnokjaaFGet
import Derived.Lib.SlBytesConst
namespace Go.Proofs.Ytpaadajkfnokjaa
open Go.RowKit
theorem T_even (v : Nat) (h : v % 2 = 0) : T v = v / 2 := by unfold T; rw [if_neg (by omega)]
theorem T_odd (v : Nat) (h : v % 2 = 1) : T v = (v / 2) ^^^ poly := by unfold T; rw [if_pos h]
/-- The sum, for the machine to reckon. -/
def Tc : Nat → Nat → Nat
  | 0, v => v
  | n + 1, v => T (Tc n v)
theorem Tc_eq (n v : Nat) : Tn n v = Tc n v := by
  induction n with
  | zero => rw [Tn_0]; rfl
  | succ n ih => rw [Tn_s, ih]; rfl
def sumC (l : List UInt8) : Nat := 4294967295 - l.foldl (fun v b => Tc 8 (v ^^^ b.toNat)) 4294967295
theorem sumC_eq (l : List UInt8) : sumOf l = sumC l := by
  rw [sumOf_eq]
  unfold sumC reg
  simp only [Tc_eq]
theorem sum_nine : sumOf [49, 50, 51, 52, 53, 54, 55, 56, 57] = 3421780262 := by rw [sumC_eq]; decide +kernel
theorem sum_zero : sumOf [] = 0 := by rw [sumC_eq]; decide +kernel
theorem turn_ex : turnL [1, 2, 3] 1 [255] = [1, 253, 3] := by decide
theorem at_lit (w : World) (l : List UInt8) (fr : Nat × Nat) : SrcIs (w.alloc (.cells (Lib.byteCells l).toArray 5 fr)) (.slice (some ⟨w.heap.size, 0, none⟩) l.length l.length) l := by
  refine .inr ⟨_, _, rfl, fun j u hj => ?_⟩
  have ha : (⟨w.heap.size, 0, none⟩ : Addr).add j = ⟨w.heap.size, j, none⟩ := by unfold Addr.add; split <;> simp_all
  rw [ha, World.cell?_alloc_mark]
  simpa using hj
set_option maxHeartbeats 400000 in
set_option maxRecDepth 100000 in
theorem awake_any (w : World) : Calls Try.prog 10 #[] w fun e w' => e = .returned (.bool true) ∧ Below w.heap.size w w' := by
  have kc := fun (w : World) (C : Array Value) (n c : Nat) => Lib.run_convert_bytes_const (P := Try.prog) w 25 5 C n c Try.underlying25 Try.underlying5
  have hs1 : SrcIs (w.alloc (.cells #[.int .u8 49, .int .u8 50, .int .u8 51, .int .u8 52, .int .u8 53, .int .u8 54, .int .u8 55, .int .u8 56, .int .u8 57] 5 (9, 10))) (.slice (some ⟨w.heap.size, 0, none⟩) 9 9) [49, 50, 51, 52, 53, 54, 55, 56, 57] := at_lit w [49, 50, 51, 52, 53, 54, 55, 56, 57] (9, 10)
  have k1 := sum_any [49, 50, 51, 52, 53, 54, 55, 56, 57] _ _ hs1 (by decide)
  rw [sum_nine] at k1
  have K1 := Lib.hid k1
  clear k1 hs1
  go_enter Try.func10, Try.ntmps10
  go_wp2_with fail
  refine K1.out.mono ?_
  rintro e w1 ⟨rfl, hb1⟩
  clear kc
  have k2 := sum_any [] (.slice none 0 0) w1 (.inl ⟨rfl, rfl⟩) (by decide)
  rw [sum_zero] at k2
  have K2 := Lib.hid k2
  clear k2 K1
  go_wp2_with fail
  refine K2.out.mono ?_
  rintro e w2 ⟨rfl, hb2⟩
  have hb3 : Below w.heap.size w w2 := ((Below.refl w.heap.size w).alloc (Nat.le_refl _) _).trans (hb1.mono (by simp)) |>.trans (hb2.mono (by have := hb1.size; simp at this; omega))
  have hs3 : SrcIs ((w2.alloc (.cells #[.int .u8 1, .int .u8 2, .int .u8 3] 5)).alloc (.cells #[.int .u8 255] 5)) (.slice (some ⟨w2.heap.size, 0, none⟩) 3 3) [1, 2, 3] := (at_lit w2 [1, 2, 3] (0, 0)).below ((Below.refl _ _).alloc (Nat.le_refl _) _)
  have hs4 : SrcIs ((w2.alloc (.cells #[.int .u8 1, .int .u8 2, .int .u8 3] 5)).alloc (.cells #[.int .u8 255] 5)) (.slice (some ⟨w2.heap.size + 1, 0, none⟩) 1 1) [255] := by
    have h := at_lit (w2.alloc (.cells #[.int .u8 1, .int .u8 2, .int .u8 3] 5)) [255] (0, 0)
    rw [show (w2.alloc (.cells #[.int .u8 1, .int .u8 2, .int .u8 3] 5)).heap.size = w2.heap.size + 1 by simp] at h
    exact h
  have k3 := turn_any [1, 2, 3] [255] 1 _ _ _ hs3 hs4 (by decide) (by decide) (by decide) (by decide)
  rw [turn_ex] at k3
  have K3 := Lib.hid k3
  clear k3 K2 hs3 hs4 hb1 hb2
  go_wp2_with fail

  refine K3.out.mono ?_
  rintro e w4 ⟨v4, rfl, hbs⟩
  have hb4 : Below w.heap.size w w4 := (hb3.alloc hb3.size _).alloc (by have := hb3.size; simp; omega) _ |>.trans (hbs.bel.mono (by have := hb3.size; simp; omega))
  obtain ⟨ao, c4, rfl, _⟩ := hbs.shape
  have hcv : Sem.run Try.prog (convert 25 9 (.slice ao 3 c4)) w4 = .ok (.string ⟨#[1, 253, 3]⟩) w4 := conv_src (SrcIs.ofRow hbs.row)
  clear hbs
  go_wp2
  go_ret
  exact ⟨rfl, hb4⟩
end Go.Proofs.Ytpaadajkfnokjaa
