/-
  FrameXor's contract: it answers true at any two texts, and writes nothing that was there.
  Conditions: none.
-/
import Derived.Test.YtpaadajkfnokjaaFAwake
import Derived.Laws.OwnMore
namespace Go.Proofs.Ytpaadajkfnokjaa
open Go.RowKit
theorem made_zeros (n : Nat) : (madeCells #[.int .u8 0] (n * 1)).toList = Lib.byteCells (List.replicate n 0) := by
  rw [Nat.mul_one]
  apply List.ext_getElem
  · simp [madeCells, Lib.byteCells]
  · intro i h1 h2
    simp [madeCells, Lib.byteCells, Nat.mod_one]
/-- 'make([]byte, n)'. -/
theorem make_any (n : Nat) (w : World) (hn : n ≤ 16777216) : ∃ w', (Instr.makeSlice 25 (.int .i64 (n : Int)) (.int .i64 (n : Int))).run Try.prog w = .ok (.slice (some ⟨w.heap.size, 0, none⟩) n n) w' ∧ BS w w' (.slice (some ⟨w.heap.size, 0, none⟩) n n) (List.replicate n 0) := by
  obtain ⟨i0, hi, hz0, hz1, hz2⟩ := info_parts info_u8
  obtain ⟨w', hr, ho, hg⟩ := run_makeSlice_full (P := Try.prog) w 0 25 5 i0 (.int .u8 0) 1 Try.underlying25 hi hz0 hz1 .i64 .i64 n (by omega) (by rw [hz2]; omega) (by unfold maxLen; omega) (Nat.zero_le _)
  refine ⟨w', hr, ?_, fun g hg => by simp [Value.ownBlock] at hg; omega, ⟨hg.os, hg.tape, hg.output, hg.size, fun k hk => hg.block k hk (by simp)⟩⟩
  rw [show (Value.int IntKind.u8 0).cells = #[.int .u8 0] from rfl, made_zeros] at ho
  rw [RowIs, List.length_replicate]
  exact ho
set_option maxHeartbeats 400000 in
set_option maxRecDepth 100000 in
theorem xor_short (a b : List UInt8) (w : World) (hza : (a.length : Int) ≤ 500) (hzb : (b.length : Int) ≤ 500) (hle : (b.length : Int) ≤ (a.length : Int)) :
    Calls Try.prog 8 #[.string (S a), .string (S b)] w fun e w' => e = .returned (.bool true) ∧ Below w.heap.size w w' := by
  have hsa : ((S a).size : Int) = (a.length : Int) := by rw [S_size]
  have hsb : ((S b).size : Int) = (b.length : Int) := by rw [S_size]
  have HA := Lib.hid awake_any
  have hcv := conv_back a w
  have HS1 := Lib.hid (src_back a w (grownCap w a.length 0 5))
  have HB1 := Lib.hid (below_back a w)
  generalize Lib.bytesWorld w 5 (S a) = w1 at hcv HS1 HB1
  have hcv2 := conv_back b w1
  have HS2 := Lib.hid (src_back b w1 (grownCap w1 b.length 0 5))
  have HB2 := Lib.hid (below_back b w1)
  generalize Lib.bytesWorld w1 5 (S b) = w2 at hcv2 HS2 HB2
  go_enter Try.func8, Try.ntmps8
  go_wp2_with fail
  refine (turn_any a b 0 _ _ w2 (HS1.out.below HB2.out) HS2.out (by decide) (by decide) (by omega) (by omega)).mono ?_
  rintro e w3 ⟨v3, rfl, hbs⟩
  rw [turnL_zero] at hbs
  have B2 := HB1.out.trans (HB2.out.mono HB1.out.size)
  have B3 := Lib.hid (B2.trans (hbs.bel.mono B2.size))
  have HV3 := Lib.hid hbs.srcC.src
  clear hcv hcv2 HS1 HS2 HB1 HB2 B2 hbs
  obtain ⟨w4, hmk, hz4⟩ := make_any a.length w3 (by omega)
  have B4 := Lib.hid (B3.out.trans (hz4.bel.mono B3.out.size))
  have HV4 := Lib.hid (HV3.out.below hz4.bel)
  have HZ4 := Lib.hid hz4.srcC.src
  have hcv := conv_back b w4
  have HS5 := Lib.hid (src_back b w4 (grownCap w4 b.length 0 5))
  have HB5 := Lib.hid (below_back b w4)
  generalize Lib.bytesWorld w4 5 (S b) = w5 at hcv HS5 HB5
  clear HV3 B3 hz4
  go_wp2_with fail
  refine (turn_any (List.replicate a.length 0) b 0 _ _ w5 (HZ4.out.below HB5.out) HS5.out (by decide) (by decide) (by rw [List.length_replicate]; omega) (by omega)).mono ?_
  rintro e w6 ⟨v6, rfl, hbs⟩
  rw [turnL_zero] at hbs
  have B5 := B4.out.trans (HB5.out.mono B4.out.size)
  have B6 := Lib.hid (B5.trans (hbs.bel.mono B5.size))
  have HV6 := Lib.hid hbs.srcC.src
  have HV3 := Lib.hid ((HV4.out.below HB5.out).below hbs.bel)
  have HZ6 := Lib.hid ((HZ4.out.below HB5.out).below hbs.bel)
  clear hmk hcv HS5 HB5 HZ4 HV4 B4 B5 hbs
  go_wp2_with fail
  refine (HA.out w6).mono ?_
  rintro e w7 ⟨rfl, hb7⟩
  have B7 := Lib.hid (B6.out.trans (hb7.mono B6.out.size))
  have HV67 := Lib.hid (HV6.out.below hb7)
  have HV37 := Lib.hid (HV3.out.below hb7)
  have HZ7 := Lib.hid (HZ6.out.below hb7)
  clear hb7 B6 HV6 HV3 HZ6
  go_wp2_with fail
  refine (sum_any (xorL a b) _ w7 HV37.out (by rw [← turnL_zero, turnL_length]; omega)).mono ?_
  rintro e w8 ⟨rfl, hb8⟩
  have B8 := Lib.hid (B7.out.trans (hb8.mono B7.out.size))
  have HV68 := Lib.hid (HV67.out.below hb8)
  have HZ8 := Lib.hid (HZ7.out.below hb8)
  clear hb8 B7 HV67 HV37 HZ7
  have hcv := conv_back a w8
  have HS9 := Lib.hid (src_back a w8 (grownCap w8 a.length 0 5))
  have hb9 := below_back a w8
  have B9 := Lib.hid (B8.out.trans (hb9.mono B8.out.size))
  have HV69 := Lib.hid (HV68.out.below hb9)
  have HZ9 := Lib.hid (HZ8.out.below hb9)
  generalize Lib.bytesWorld w8 5 (S a) = w9 at hcv HS9 B9 HV69 HZ9
  clear hb9 B8 HV68 HZ8
  go_wp2_with fail
  refine (sum_any a _ w9 HS9.out (by omega)).mono ?_
  rintro e wa ⟨rfl, hba⟩
  have BA := Lib.hid (B9.out.trans (hba.mono B9.out.size))
  have HV6a := Lib.hid (HV69.out.below hba)
  have HZa := Lib.hid (HZ9.out.below hba)
  clear hba B9 HV69 HZ9 HS9 hcv
  have hx1 := xor_u32 (sumOf (xorL a b)) (sumOf a) (sumOf_lt _) (sumOf_lt _)
  have hx2 := xor_u32 (sumOf (xorL (List.replicate a.length 0) b)) (sumOf (List.replicate a.length 0)) (sumOf_lt _) (sumOf_lt _)
  rw [← sum_xorL a b] at hx2
  generalize sumOf (xorL a b) ^^^ sumOf a = r at hx1 hx2
  obtain ⟨p1, hp1⟩ : ∃ p1, p1 = sumOf (xorL a b) := ⟨_, rfl⟩
  obtain ⟨p2, hp2⟩ : ∃ p2, p2 = sumOf a := ⟨_, rfl⟩
  rw [← hp1, ← hp2] at hx1 ⊢
  clear hp1 hp2
  go_wp2_with fail
  refine (sum_any (xorL (List.replicate a.length 0) b) _ wa HV6a.out (by rw [← turnL_zero, turnL_length, List.length_replicate]; omega)).mono ?_
  rintro e wb ⟨rfl, hbb⟩
  have BB := Lib.hid (BA.out.trans (hbb.mono BA.out.size))
  have HZb := Lib.hid (HZa.out.below hbb)
  clear hbb BA HV6a HZa
  obtain ⟨p3, hp3⟩ : ∃ p3, p3 = sumOf (xorL (List.replicate a.length 0) b) := ⟨_, rfl⟩
  rw [← hp3] at hx2 ⊢
  clear hp3
  go_wp2_with fail
  refine (sum_any (List.replicate a.length 0) _ wb (by have := HZb.out; exact this) (by rw [List.length_replicate]; omega)).mono ?_
  rintro e wc ⟨rfl, hbc⟩
  have BC := Lib.hid (BB.out.trans (hbc.mono BB.out.size))
  clear hbc BB HZb
  obtain ⟨p4, hp4⟩ : ∃ p4, p4 = sumOf (List.replicate a.length 0) := ⟨_, rfl⟩
  rw [← hp4] at hx2 ⊢
  clear hp4
  go_wp2
  go_ret
  exact ⟨rfl, BC.out⟩
set_option maxHeartbeats 400000 in
set_option maxRecDepth 100000 in
theorem xor_long (a b : List UInt8) (w : World) (hza : (a.length : Int) ≤ 500) (hzb : (b.length : Int) ≤ 500) (hlt : (a.length : Int) < (b.length : Int)) :
    Calls Try.prog 8 #[.string (S a), .string (S b)] w fun e w' => e = .returned (.bool true) ∧ Below w.heap.size w w' := by
  have hsa : ((S a).size : Int) = (a.length : Int) := by rw [S_size]
  have hsb : ((S b).size : Int) = (b.length : Int) := by rw [S_size]
  have HA := Lib.hid awake_any
  obtain ⟨y, hy⟩ : ∃ y, y = b.take a.length := ⟨_, rfl⟩
  have hyl : y.length = a.length := by rw [hy, List.length_take]; omega
  have hcut : (S b).extract 0 a.length = S y := by rw [hy]; exact S_take b a.length
  have hzy : (y.length : Int) ≤ 500 := by omega
  have ha0 : (0 : Int) ≤ (a.length : Int) := by omega
  have HYL := Lib.hid hyl
  clear hy hyl
  have hcv := conv_back a w
  have HS1 := Lib.hid (src_back a w (grownCap w a.length 0 5))
  have HB1 := Lib.hid (below_back a w)
  generalize Lib.bytesWorld w 5 (S a) = w1 at hcv HS1 HB1
  have hcv2 := conv_back y w1
  have HS2 := Lib.hid (src_back y w1 (grownCap w1 y.length 0 5))
  have HB2 := Lib.hid (below_back y w1)
  generalize Lib.bytesWorld w1 5 (S y) = w2 at hcv2 HS2 HB2
  go_enter Try.func8, Try.ntmps8
  go_wp2_with fail
  refine (turn_any a y 0 _ _ w2 (HS1.out.below HB2.out) HS2.out (by decide) (by decide) (by omega) (by omega)).mono ?_
  rintro e w3 ⟨v3, rfl, hbs⟩
  rw [turnL_zero] at hbs
  have B2 := HB1.out.trans (HB2.out.mono HB1.out.size)
  have B3 := Lib.hid (B2.trans (hbs.bel.mono B2.size))
  have HV3 := Lib.hid hbs.srcC.src
  clear hcv hcv2 HS1 HS2 HB1 HB2 B2 hbs
  obtain ⟨w4, hmk, hz4⟩ := make_any a.length w3 (by omega)
  have B4 := Lib.hid (B3.out.trans (hz4.bel.mono B3.out.size))
  have HV4 := Lib.hid (HV3.out.below hz4.bel)
  have HZ4 := Lib.hid hz4.srcC.src
  have hcv := conv_back y w4
  have HS5 := Lib.hid (src_back y w4 (grownCap w4 y.length 0 5))
  have HB5 := Lib.hid (below_back y w4)
  generalize Lib.bytesWorld w4 5 (S y) = w5 at hcv HS5 HB5
  clear HV3 B3 hz4
  go_wp2_with fail
  refine (turn_any (List.replicate a.length 0) y 0 _ _ w5 (HZ4.out.below HB5.out) HS5.out (by decide) (by decide) (by rw [List.length_replicate]; omega) (by omega)).mono ?_
  rintro e w6 ⟨v6, rfl, hbs⟩
  rw [turnL_zero] at hbs
  have B5 := B4.out.trans (HB5.out.mono B4.out.size)
  have B6 := Lib.hid (B5.trans (hbs.bel.mono B5.size))
  have HV6 := Lib.hid hbs.srcC.src
  have HV3 := Lib.hid ((HV4.out.below HB5.out).below hbs.bel)
  have HZ6 := Lib.hid ((HZ4.out.below HB5.out).below hbs.bel)
  clear hmk hcv HS5 HB5 HZ4 HV4 B4 B5 hbs
  go_wp2_with fail
  refine (HA.out w6).mono ?_
  rintro e w7 ⟨rfl, hb7⟩
  have B7 := Lib.hid (B6.out.trans (hb7.mono B6.out.size))
  have HV67 := Lib.hid (HV6.out.below hb7)
  have HV37 := Lib.hid (HV3.out.below hb7)
  have HZ7 := Lib.hid (HZ6.out.below hb7)
  clear hb7 B6 HV6 HV3 HZ6
  go_wp2_with fail
  refine (sum_any (xorL a y) _ w7 HV37.out (by rw [← turnL_zero, turnL_length]; omega)).mono ?_
  rintro e w8 ⟨rfl, hb8⟩
  have B8 := Lib.hid (B7.out.trans (hb8.mono B7.out.size))
  have HV68 := Lib.hid (HV67.out.below hb8)
  have HZ8 := Lib.hid (HZ7.out.below hb8)
  clear hb8 B7 HV67 HV37 HZ7
  have hcv := conv_back a w8
  have HS9 := Lib.hid (src_back a w8 (grownCap w8 a.length 0 5))
  have hb9 := below_back a w8
  have B9 := Lib.hid (B8.out.trans (hb9.mono B8.out.size))
  have HV69 := Lib.hid (HV68.out.below hb9)
  have HZ9 := Lib.hid (HZ8.out.below hb9)
  generalize Lib.bytesWorld w8 5 (S a) = w9 at hcv HS9 B9 HV69 HZ9
  clear hb9 B8 HV68 HZ8
  go_wp2_with fail
  refine (sum_any a _ w9 HS9.out (by omega)).mono ?_
  rintro e wa ⟨rfl, hba⟩
  have BA := Lib.hid (B9.out.trans (hba.mono B9.out.size))
  have HV6a := Lib.hid (HV69.out.below hba)
  have HZa := Lib.hid (HZ9.out.below hba)
  clear hba B9 HV69 HZ9 HS9 hcv
  have hx1 := xor_u32 (sumOf (xorL a y)) (sumOf a) (sumOf_lt _) (sumOf_lt _)
  have hx2 := xor_u32 (sumOf (xorL (List.replicate a.length 0) y)) (sumOf (List.replicate a.length 0)) (sumOf_lt _) (sumOf_lt _)
  rw [← sum_xorL a y] at hx2
  generalize sumOf (xorL a y) ^^^ sumOf a = r at hx1 hx2
  obtain ⟨p1, hp1⟩ : ∃ p1, p1 = sumOf (xorL a y) := ⟨_, rfl⟩
  obtain ⟨p2, hp2⟩ : ∃ p2, p2 = sumOf a := ⟨_, rfl⟩
  rw [← hp1, ← hp2] at hx1 ⊢
  clear hp1 hp2
  go_wp2_with fail
  refine (sum_any (xorL (List.replicate a.length 0) y) _ wa HV6a.out (by rw [← turnL_zero, turnL_length, List.length_replicate]; omega)).mono ?_
  rintro e wb ⟨rfl, hbb⟩
  have BB := Lib.hid (BA.out.trans (hbb.mono BA.out.size))
  have HZb := Lib.hid (HZa.out.below hbb)
  clear hbb BA HV6a HZa
  obtain ⟨p3, hp3⟩ : ∃ p3, p3 = sumOf (xorL (List.replicate a.length 0) y) := ⟨_, rfl⟩
  rw [← hp3] at hx2 ⊢
  clear hp3
  go_wp2_with fail
  refine (sum_any (List.replicate a.length 0) _ wb (by have := HZb.out; exact this) (by rw [List.length_replicate]; omega)).mono ?_
  rintro e wc ⟨rfl, hbc⟩
  have BC := Lib.hid (BB.out.trans (hbc.mono BB.out.size))
  clear hbc BB HZb
  obtain ⟨p4, hp4⟩ : ∃ p4, p4 = sumOf (List.replicate a.length 0) := ⟨_, rfl⟩
  rw [← hp4] at hx2 ⊢
  clear hp4
  go_wp2
  go_ret
  exact ⟨rfl, BC.out⟩
set_option maxHeartbeats 400000 in
set_option maxRecDepth 100000 in
theorem frameXor_any (a b : List UInt8) (w : World) (hs : a.length ≤ 9223372036854775807) (ht : b.length ≤ 9223372036854775807) :
    Calls Try.prog 8 #[.string (S a), .string (S b)] w fun e w' => e = .returned (.bool true) ∧ Below w.heap.size w w' := by
  by_cases hall : (a.length : Int) ≤ 500 ∧ (b.length : Int) ≤ 500
  · by_cases hle : (b.length : Int) ≤ (a.length : Int)
    · exact xor_short a b w hall.1 hall.2 hle
    · exact xor_long a b w hall.1 hall.2 (by omega)
  have hsa : ((S a).size : Int) = (a.length : Int) := by rw [S_size]
  have hsb : ((S b).size : Int) = (b.length : Int) := by rw [S_size]
  have HA := Lib.hid awake_any
  by_cases h1 : (500 : Int) < (a.length : Int)
  · clear hall
    go_enter Try.func8, Try.ntmps8
    go_wp2_with (go_at_call 10; refine (HA.out _).mono ?_; rintro e w1 ⟨rfl, hb⟩)
    go_ret
    exact ⟨rfl, hb⟩
  have h1' : (a.length : Int) ≤ 500 := by omega
  have h3 : (500 : Int) < (b.length : Int) := by omega
  clear hall h1
  go_enter Try.func8, Try.ntmps8
  go_wp2_with (go_at_call 10; refine (HA.out _).mono ?_; rintro e w1 ⟨rfl, hb⟩)
  go_ret
  exact ⟨rfl, hb⟩
end Go.Proofs.Ytpaadajkfnokjaa
