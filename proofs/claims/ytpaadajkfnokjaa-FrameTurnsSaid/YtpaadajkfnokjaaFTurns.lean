/-
  FrameTurns's contract: it answers true at any two texts and any number, and writes nothing that was there.
  Conditions: the number is an int64.
-/
import Derived.Test.YtpaadajkfnokjaaFAwake
import Derived.Test.YtpaadajkfnokjaaFRefTurn
import Derived.Deep.RegionHeld
namespace Go.Proofs.Ytpaadajkfnokjaa
open Go.RowKit
set_option maxHeartbeats 4000000 in
set_option maxRecDepth 100000 in
theorem turns_small (s : List UInt8) (at_ : Int) (y : List UInt8) (w : World) (hz : (s.length : Int) ≤ 300) (hy : (y.length : Int) ≤ 300) (h0 : -1000 ≤ at_) (h1 : at_ ≤ 1000) :
    Calls Try.prog 6 #[.string (S s), .int .i64 at_, .string (S y)] w fun e w' => e = .returned (.bool true) ∧ Below w.heap.size w w' := by
  have hsz : ((S s).size : Int) = (s.length : Int) := by rw [S_size]
  have hyz : ((S y).size : Int) = (y.length : Int) := by rw [S_size]
  have HA := Lib.hid awake_any
  have hcv := conv_back s w
  have HS1 := Lib.hid (src_back s w (grownCap w s.length 0 5))
  have HB1 := Lib.hid (below_back s w)
  generalize Lib.bytesWorld w 5 (S s) = w1 at hcv HS1 HB1
  have hcv2 := conv_back y w1
  have HS2 := Lib.hid (src_back y w1 (grownCap w1 y.length 0 5))
  have HB2 := Lib.hid (below_back y w1)
  generalize Lib.bytesWorld w1 5 (S y) = w2 at hcv2 HS2 HB2
  go_enter Try.func6, Try.ntmps6
  go_wp2_with fail
  refine (turn_any s y at_ _ _ w2 (HS1.out.below HB2.out) HS2.out (by omega) (by omega) (by omega) (by omega)).mono ?_
  rintro e w3 ⟨v7, rfl, hbs⟩
  have B2 := HB1.out.trans (HB2.out.mono HB1.out.size)
  have B3 := Lib.hid (B2.trans (hbs.bel.mono B2.size))
  have H7 := Lib.hid hbs.srcC.src
  clear hcv hcv2 HS1 HS2 HB1 HB2 B2 hbs
  have HCV : Hid (∀ W, Below w3.heap.size w3 W → Sem.run Try.prog (convert 25 9 v7) W = .ok (.string (S (turnL s at_ y))) W) := fun W hW => conv_src (H7.out.below hW)
  have HRT : Hid (∀ W, Calls Try.prog 19 #[.string (S s), .int .i64 at_, .string (S y)] W fun e w' => e = .returned (.string (S (turnL s at_ y))) ∧ Below W.heap.size W w') := fun W => refturn_any s y at_ W h0 h1 (by omega) (by omega)
  have HTT : Hid (∀ W, Below w3.heap.size w3 W → Calls Try.prog 18 #[v7, .int .i64 at_, .slice (some ⟨W.heap.size, 0, none⟩) y.length (grownCap W y.length 0 5)] (Lib.bytesWorld W 5 (S y)) fun e w' => ∃ v', e = .returned v' ∧ Below w3.heap.size w3 w' ∧ Sem.run Try.prog (convert 25 9 v') w' = .ok (.string (S s)) w') := fun W hW => by
    have hb := below_back y W
    have hW2 := hW.trans (hb.mono hW.size)
    refine (turn_any (turnL s at_ y) y at_ _ _ _ (H7.out.below hW2) (src_back y W _) (by omega) (by omega) (by rw [turnL_length]; omega) (by omega)).mono ?_
    rintro e w' ⟨v', rfl, hbs⟩
    rw [turnL_twice] at hbs
    exact ⟨v', rfl, hW2.trans (hbs.bel.mono hW2.size), conv_src (SrcIs.ofRow hbs.row)⟩
  have hcvy : ∀ W, Sem.run Try.prog (convert 9 25 (.string (S y))) W = .ok (.slice (some ⟨W.heap.size, 0, none⟩) y.length (grownCap W y.length 0 5)) (Lib.bytesWorld W 5 (S y)) := fun W => conv_back y W
  have HBW : Hid (∀ W, Below w3.heap.size w3 W → Below w3.heap.size w3 (Lib.bytesWorld W 5 (S y))) := fun W hW => hW.trans ((below_back y W).mono hW.size)
  clear H7
  go_wp2_with fail
  first
  | (go_region_held (fun W => Sem.run Try.prog (convert 25 9 v7) W = .ok (.string (S (turnL s at_ y))) W) (first | with_reducible exact HCV.out _ b4 | with_reducible exact HCV.out _ (HBW.out _ b2) | with_reducible exact HCV.out _ b2 | with_reducible exact HCV.out _ b1 | with_reducible exact HCV.out _ ((Below.refl _ _).drew))
      (first | (go_at_call 10; refine (HA.out _).mono ?_; rintro e wA ⟨rfl, bA⟩; have b1 := ((Below.refl w3.heap.size w3).drew).trans bA) | (go_at_call 19; refine (HRT.out _).mono ?_; rintro e wR ⟨rfl, bR⟩; have b2 := b1.trans (bR.mono b1.size)) | (go_at_call 18; refine (HTT.out _ (by exact b2)).mono ?_; rintro e w8 ⟨v8, rfl, b4, c8⟩)))
  | fail
  all_goals go_wp2
  all_goals go_ret
  all_goals exact ⟨rfl, B3.out.trans (b4.mono B3.out.size)⟩
set_option maxHeartbeats 400000 in
set_option maxRecDepth 100000 in
theorem turns_any (s : List UInt8) (at_ : Int) (y : List UInt8) (w : World) (hs : s.length ≤ 9223372036854775807) (ha0 : -9223372036854775808 ≤ at_) (ha1 : at_ ≤ 9223372036854775807) (ht : y.length ≤ 9223372036854775807) :
    Calls Try.prog 6 #[.string (S s), .int .i64 at_, .string (S y)] w fun e w' => e = .returned (.bool true) ∧ Below w.heap.size w w' := by
  by_cases hall : (s.length : Int) ≤ 300 ∧ (y.length : Int) ≤ 300 ∧ -1000 ≤ at_ ∧ at_ ≤ 1000
  · exact turns_small s at_ y w hall.1 hall.2.1 hall.2.2.1 hall.2.2.2
  have hsz : ((S s).size : Int) = (s.length : Int) := by rw [S_size]
  have hyz : ((S y).size : Int) = (y.length : Int) := by rw [S_size]
  have HA := Lib.hid awake_any
  by_cases c1 : (300 : Int) < (s.length : Int)
  · clear hall
    go_enter Try.func6, Try.ntmps6
    go_wp2_with (go_at_call 10; refine (HA.out _).mono ?_; rintro e w1 ⟨rfl, hb⟩)
    go_ret
    exact ⟨rfl, hb⟩
  have c1' : (s.length : Int) ≤ 300 := by omega
  by_cases c2 : (300 : Int) < (y.length : Int)
  · clear hall c1
    go_enter Try.func6, Try.ntmps6
    go_wp2_with (go_at_call 10; refine (HA.out _).mono ?_; rintro e w1 ⟨rfl, hb⟩)
    go_ret
    exact ⟨rfl, hb⟩
  have c2' : (y.length : Int) ≤ 300 := by omega
  by_cases c3 : at_ < -1000
  · clear hall c1 c2
    go_enter Try.func6, Try.ntmps6
    go_wp2_with (go_at_call 10; refine (HA.out _).mono ?_; rintro e w1 ⟨rfl, hb⟩)
    go_ret
    exact ⟨rfl, hb⟩
  have c3' : -1000 ≤ at_ := by omega
  have c4 : 1000 < at_ := by omega
  clear hall c1 c2 c3
  go_enter Try.func6, Try.ntmps6
  go_wp2_with (go_at_call 10; refine (HA.out _).mono ?_; rintro e w1 ⟨rfl, hb⟩)
  go_ret
  exact ⟨rfl, hb⟩
end Go.Proofs.Ytpaadajkfnokjaa
