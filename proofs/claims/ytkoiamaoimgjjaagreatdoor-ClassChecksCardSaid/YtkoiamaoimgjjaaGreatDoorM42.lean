/-
  The walk of the law ClassChecks: which classes may be, by themselves, is as the document says.
  Conditions: the tables hold what they hold at the start.
-/
import Derived.Test.YtkoiamaoimgjjaaGreatDoorM37
import Derived.Test.YtkoiamaoimgjjaaGreatDoorM48
import Derived.Test.YtkoiamaoimgjjaaGreatDoorM40
import Derived.Deep.RegionHeld
import Derived.Deep.DrawnRows
namespace Go.Proofs.YtkoiamaoimgjjaaGreatDoor
open Go.RowKit
set_option maxHeartbeats 4000000 in
set_option maxRecDepth 100000 in
theorem classChecks_any (v : Value) (c : Cls) (w : World) (hT : CT w) (hv : ClsR Anyw w c v) (hr : c.real) :
    Calls Tryz.prog 3 #[v] w (Said true w) := by
  have HT := Lib.hid hT
  have hv0 := hv
  obtain ⟨lv, fv, mv, rfl, hl, hf, hm⟩ := hv
  obtain ⟨lo, lc, rfl⟩ := hl.shape
  obtain ⟨fo, fc, rfl⟩ := hf.shape
  obtain ⟨mo, mc, rfl⟩ := hm.shape
  clear hl hf hm
  have hb0 : Below w.heap.size w (w.alloc (.cells #[.string (S c.name), .string (S c.sup), .slice lo c.like.length lc, .bool c.itf, .bool c.abs, .bool c.fin, .slice fo c.flds.length fc, .slice mo c.mths.length mc] 26)) := (Below.refl _ w).alloc (Nat.le_refl _) _
  have HB0 := Lib.hid hb0
  have HBX := Lib.hid (Box.new w #[.string (S c.name), .string (S c.sup), .slice lo c.like.length lc, .bool c.itf, .bool c.abs, .bool c.fin, .slice fo c.flds.length fc, .slice mo c.mths.length mc] 26)
  have HV := Lib.hid (ClsR.st.keep hv0 (Only.ofBelow (S := fun _ => False) hb0) (fun _ _ => id))
  have HFW := Lib.hid (cfew_any (A := Anyw) c _ _ HV.out hr.2.1)
  have HFT := Lib.hid hr.2.1
  have HG := Lib.hid (few_nums (c := c))
  clear hT hv0 hr hb0
  go_enter Tryz.func3, Tryz.ntmps3
  have c0 := HBX.out.cell 0 rfl
  have c1 := HBX.out.cell 1 rfl
  have c2 := HBX.out.cell 2 rfl
  have c3 := HBX.out.cell 3 rfl
  have c4 := HBX.out.cell 4 rfl
  have c5 := HBX.out.cell 5 rfl
  have c6 := HBX.out.cell 6 rfl
  have c7 := HBX.out.cell 7 rfl
  go_wp2_with fail
  refine HFW.out.mono ?_
  rintro e w1 ⟨rfl, hb1⟩
  clear HFW c0 c1 c2 c3 c4 c5 c6 c7
  generalize w.alloc (.cells #[.string (S c.name), .string (S c.sup), .slice lo c.like.length lc, .bool c.itf, .bool c.abs, .bool c.fin, .slice fo c.flds.length fc, .slice mo c.mths.length mc] 26) = W0 at HB0 HBX HV hb1 ⊢
  obtain ⟨B, hB⟩ : ∃ B, B = w.heap.size := ⟨_, rfl⟩
  rw [← hB] at HBX ⊢
  clear hB
  have HB1 := Lib.hid hb1
  clear hb1
  have HC1 := Lib.hid (HB0.out.trans (HB1.out.mono HB0.out.size))
  generalize c.great = g at HG ⊢
  cases g
  case true =>
    go_wp2_with fail
    refine (awake5_any w1 (HT.out.keep HC1.out)).mono ?_
    rintro e w2 ⟨rfl, hb2⟩
    have HC2 := Lib.hid (HC1.out.trans (hb2.mono HC1.out.size))
    clear hb2
    go_wp2
    go_ret
    exact ⟨rfl, HC2.out⟩
  have HS : Hid (∀ W, Below W0.heap.size W0 W → W.cell? ⟨B, 0, none⟩ = some (.string (S c.name)) ∧ W.cell? ⟨B, 1, none⟩ = some (.string (S c.sup)) ∧ W.cell? ⟨B, 2, none⟩ = some (.slice lo c.like.length lc) ∧ W.cell? ⟨B, 3, none⟩ = some (.bool c.itf) ∧ W.cell? ⟨B, 4, none⟩ = some (.bool c.abs) ∧ W.cell? ⟨B, 5, none⟩ = some (.bool c.fin) ∧ W.cell? ⟨B, 6, none⟩ = some (.slice fo c.flds.length fc) ∧ W.cell? ⟨B, 7, none⟩ = some (.slice mo c.mths.length mc)) := Lib.hid (fun W hW => by
    have hx := HBX.out.below hW
    exact ⟨hx.cell 0 rfl, hx.cell 1 rfl, hx.cell 2 rfl, hx.cell 3 rfl, hx.cell 4 rfl, hx.cell 5 rfl, hx.cell 6 rfl, hx.cell 7 rfl⟩)
  have HA : Hid (∀ W, Below W0.heap.size W0 W → Calls Tryz.prog 12 #[] W (Said true W)) := Lib.hid (fun W hW => awake5_any W (HT.out.keep (HB0.out.trans (hW.mono HB0.out.size))))
  have HCK : Hid (∀ W, Below W0.heap.size W0 W → Calls Tryz.prog 13 #[.agg #[.string (S c.name), .string (S c.sup), .slice lo c.like.length lc, .bool c.itf, .bool c.abs, .bool c.fin, .slice fo c.flds.length fc, .slice mo c.mths.length mc]] W fun e w' => e = .returned (.int .i64 (c.e : Nat)) ∧ Below W.heap.size W w') := Lib.hid (fun W hW =>
    ccheck_any c _ W (ClsR.st.keep HV.out (Only.ofBelow (S := fun _ => False) hW) (fun _ _ => id)) (HT.out.keep (HB0.out.trans (hW.mono HB0.out.size))) HFT.out)
  have HRK : Hid (∀ W, Below W0.heap.size W0 W → Calls Tryz.prog 14 #[.agg #[.string (S c.name), .string (S c.sup), .slice lo c.like.length lc, .bool c.itf, .bool c.abs, .bool c.fin, .slice fo c.flds.length fc, .slice mo c.mths.length mc]] W fun e w' => e = .returned (.int .i64 (c.e : Nat)) ∧ Below W.heap.size W w') := Lib.hid (fun W hW =>
    refcheck5_any c _ W (ClsR.st.keep HV.out (Only.ofBelow (S := fun _ => False) hW) (fun _ _ => id)) HFT.out)
  generalize c.e = E at HCK HRK
  go_upto_region 3 with fail
  have hB := HB1.out
  obtain ⟨g0, g1, g2, g3, g4, g5, g6, g7⟩ := HS.out _ hB
  first
  | (go_region_held (fun W => W.cell? ⟨B, 0, none⟩ = some (.string (S c.name)) ∧ W.cell? ⟨B, 1, none⟩ = some (.string (S c.sup)) ∧ W.cell? ⟨B, 2, none⟩ = some (.slice lo c.like.length lc) ∧ W.cell? ⟨B, 3, none⟩ = some (.bool c.itf) ∧ W.cell? ⟨B, 4, none⟩ = some (.bool c.abs) ∧ W.cell? ⟨B, 5, none⟩ = some (.bool c.fin) ∧ W.cell? ⟨B, 6, none⟩ = some (.slice fo c.flds.length fc) ∧ W.cell? ⟨B, 7, none⟩ = some (.slice mo c.mths.length mc)) ((refine HS.out _ ?_; (repeat (first | (with_reducible exact Below.refl _ _) | (with_reducible assumption) | (with_reducible (apply below_step; rotate_left; assumption)) | (with_reducible refine below_drew ?_)))))
      (first
       | (go_at_call 12; refine (HA.out _ ?_).mono ?_; (focus ((repeat (first | (with_reducible exact Below.refl _ _) | (with_reducible assumption) | (with_reducible (apply below_step; rotate_left; assumption)) | (with_reducible refine below_drew ?_))); done)); rintro e wA ⟨rfl, b1⟩)
       | (go_at_call 13; refine (HCK.out _ ?_).mono ?_; (focus ((repeat (first | (with_reducible exact Below.refl _ _) | (with_reducible assumption) | (with_reducible (apply below_step; rotate_left; assumption)) | (with_reducible refine below_drew ?_))); done)); rintro e wB ⟨rfl, b2⟩)
       | (go_at_call 14; refine (HRK.out _ ?_).mono ?_; (focus ((repeat (first | (with_reducible exact Below.refl _ _) | (with_reducible assumption) | (with_reducible (apply below_step; rotate_left; assumption)) | (with_reducible refine below_drew ?_))); done)); rintro e wC ⟨rfl, b3⟩)))
  | fail
  all_goals
    have hbE : Below W0.heap.size W0 wC := by (repeat (first | (with_reducible exact Below.refl _ _) | (with_reducible assumption) | (with_reducible (apply below_step; rotate_left; assumption)) | (with_reducible refine below_drew ?_)))
    have HBE := Lib.hid (HB0.out.trans (hbE.mono HB0.out.size))
    clear hbE
    go_wp2
    go_ret
    exact ⟨rfl, HBE.out⟩
end Go.Proofs.YtkoiamaoimgjjaaGreatDoor
