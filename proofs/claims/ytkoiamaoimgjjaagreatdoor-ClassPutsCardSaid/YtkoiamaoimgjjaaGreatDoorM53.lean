/-
  The walk of the law ClassPuts: a class is the document's bytes, and itself again, or may not be.
  Conditions: the tables hold what they hold at the start.
-/
import Derived.Test.YtkoiamaoimgjjaaGreatDoorM51
import Derived.Test.YtkoiamaoimgjjaaGreatDoorM40
import Derived.Deep.RegionHeld
import Derived.Deep.DrawnRows
namespace Go.Proofs.YtkoiamaoimgjjaaGreatDoor
open Go.RowKit
set_option maxHeartbeats 4000000 in
set_option maxRecDepth 100000 in
theorem classPuts_any (v : Value) (c : Cls) (w : World) (hT : CT w) (hv : ClsR Anyw w c v) (hr : c.real) :
    Calls Tryz.prog 4 #[v] w (Said true w) := by
  have HT := Lib.hid hT
  have hv0 := hv
  obtain ⟨lv, fv, mv, rfl, hl, hf, hm⟩ := hv
  obtain ⟨lo, lc, rfl⟩ := hl.shape
  obtain ⟨fo, fc, rfl⟩ := hf.shape
  obtain ⟨mo, mc, rfl⟩ := hm.shape
  clear hl hf hm
  have hb0 : Below w.heap.size w (w.alloc (.cells #[.string (S c.name), .string (S c.sup), .slice lo c.like.length lc, .bool c.itf, .bool c.abs, .bool c.fin, .slice fo c.flds.length fc, .slice mo c.mths.length mc] 26)) := (Below.refl _ w).alloc (Nat.le_refl _) _
  have HB0 := Lib.hid hb0
  have HBX := Lib.hid (Box.new w #[.string (S c.name), .string (S c.sup), .slice lo c.like.length lc, .bool c.itf, .bool c.abs, .bool c.fin, .slice fo c.flds.length fc, .slice mo c.mths.length mc] 26)
  have HV := Lib.hid (ClsR.st.keep hv0 (Only.ofBelow (S := fun _ => False) hb0) (fun _ _ => id))
  have HFW := Lib.hid (cfew_any (A := Anyw) c _ _ HV.out hr.2.1)
  have HFT := Lib.hid hr.2.1
  have HHD := Lib.hid hr.1
  clear hT hv0 hr hb0
  go_enter Tryz.func4, Tryz.ntmps4
  have c0 := HBX.out.cell 0 rfl
  have c1 := HBX.out.cell 1 rfl
  have c2 := HBX.out.cell 2 rfl
  have c3 := HBX.out.cell 3 rfl
  have c4 := HBX.out.cell 4 rfl
  have c5 := HBX.out.cell 5 rfl
  have c6 := HBX.out.cell 6 rfl
  have c7 := HBX.out.cell 7 rfl
  go_wp2_with fail
  refine HFW.out.mono ?_
  rintro e w1 ⟨rfl, hb1⟩
  clear HFW c0 c1 c2 c3 c4 c5 c6 c7
  generalize w.alloc (.cells #[.string (S c.name), .string (S c.sup), .slice lo c.like.length lc, .bool c.itf, .bool c.abs, .bool c.fin, .slice fo c.flds.length fc, .slice mo c.mths.length mc] 26) = W0 at HB0 HBX HV hb1 ⊢
  obtain ⟨B, hB⟩ : ∃ B, B = w.heap.size := ⟨_, rfl⟩
  rw [← hB] at HBX ⊢
  clear hB
  have HB1 := Lib.hid hb1
  clear hb1
  have HC1 := Lib.hid (HB0.out.trans (HB1.out.mono HB0.out.size))
  generalize c.great = g at ⊢
  cases g
  case true =>
    go_wp2_with fail
    refine (awake5_any w1 (HT.out.keep HC1.out)).mono ?_
    rintro e w2 ⟨rfl, hb2⟩
    have HC2 := Lib.hid (HC1.out.trans (hb2.mono HC1.out.size))
    clear hb2
    go_wp2
    go_ret
    exact ⟨rfl, HC2.out⟩
  have HVW : Hid (∀ W, Below W0.heap.size W0 W → ClsR Anyw W c (.agg #[.string (S c.name), .string (S c.sup), .slice lo c.like.length lc, .bool c.itf, .bool c.abs, .bool c.fin, .slice fo c.flds.length fc, .slice mo c.mths.length mc])) := Lib.hid (fun W hW => ClsR.st.keep HV.out (Only.ofBelow (S := fun _ => False) hW) (fun _ _ => id))
  have hbx1 := HBX.out.below HB1.out
  have c0 := hbx1.cell 0 rfl
  have c1 := hbx1.cell 1 rfl
  have c2 := hbx1.cell 2 rfl
  have c3 := hbx1.cell 3 rfl
  have c4 := hbx1.cell 4 rfl
  have c5 := hbx1.cell 5 rfl
  have c6 := hbx1.cell 6 rfl
  have c7 := hbx1.cell 7 rfl
  clear hbx1
  go_wp2_with fail
  refine (cput_any c _ w1 (HVW.out w1 HB1.out) (HT.out.keep HC1.out) HFT.out HHD.out).mono ?_
  rintro e w2 ⟨hy, hn⟩
  clear c0 c1 c2 c3 c4 c5 c6 c7
  by_cases hz : c.e = 0
  case neg =>
    obtain ⟨rfl, hb2⟩ := hn hz
    have HB2 := Lib.hid (below_step HB1.out hb2)
    have hzb : (((c.e : Nat) : Int) != 0) = true := by rw [bne_iff_ne]; omega
    have HRC := Lib.hid (refcheck5_any c _ w2 (HVW.out w2 HB2.out) HFT.out)
    clear hy hn hb2 hz
    generalize c.e = E at HRC hzb ⊢
    have hbx2 := HBX.out.below HB2.out
    have c0 := hbx2.cell 0 rfl
    have c1 := hbx2.cell 1 rfl
    have c2 := hbx2.cell 2 rfl
    have c3 := hbx2.cell 3 rfl
    have c4 := hbx2.cell 4 rfl
    have c5 := hbx2.cell 5 rfl
    have c6 := hbx2.cell 6 rfl
    have c7 := hbx2.cell 7 rfl
    clear hbx2
    go_wp2_with fail
    refine HRC.out.mono ?_
    rintro e w3 ⟨rfl, hb3⟩
    have HC3 := Lib.hid (HB0.out.trans ((below_step HB2.out hb3).mono HB0.out.size))
    clear hb3 HRC c0 c1 c2 c3 c4 c5 c6 c7
    go_wp2_with fail
    refine (awake5_any w3 (HT.out.keep HC3.out)).mono ?_
    rintro e w4 ⟨rfl, hb4⟩
    have HC4 := Lib.hid (HC3.out.trans (hb4.mono HC3.out.size))
    clear hb4
    go_wp2
    go_ret
    exact ⟨rfl, HC4.out⟩
  obtain ⟨v2, rfl, s2⟩ := hy hz
  have hgc : c.Good := ⟨hz, HHD.out⟩
  have HGC := Lib.hid hgc
  obtain ⟨ao2, m2, c2', rfl⟩ := row_shape s2.row
  have S2 := Lib.hid s2
  have HB2 := Lib.hid (below_step HB1.out s2.bel)
  have hrc := refcheck5_any c _ w2 (HVW.out w2 HB2.out) HFT.out
  rw [hz] at hrc
  have HRC := Lib.hid hrc
  clear hy hn hz hgc s2 hrc
  have hbx2 := HBX.out.below HB2.out
  have c0 := hbx2.cell 0 rfl
  have c1 := hbx2.cell 1 rfl
  have c2 := hbx2.cell 2 rfl
  have c3 := hbx2.cell 3 rfl
  have c4 := hbx2.cell 4 rfl
  have c5 := hbx2.cell 5 rfl
  have c6 := hbx2.cell 6 rfl
  have c7 := hbx2.cell 7 rfl
  clear hbx2
  go_wp2_with fail
  refine HRC.out.mono ?_
  rintro e w3 ⟨rfl, hb3⟩
  have HB3 := Lib.hid (below_step HB2.out hb3)
  have S3 := Lib.hid (S2.out.keep hb3)
  have HC3 := Lib.hid (HB0.out.trans (HB3.out.mono HB0.out.size))
  clear hb3 HRC S2 c0 c1 c2 c3 c4 c5 c6 c7
  go_wp2_with fail
  refine (cget_any _ c.bytes w3 (.ofRow S3.out.row) (HT.out.keep HC3.out) (Nat.le_trans HGC.out.le (by decide))).mono ?_
  rintro e w4 ⟨hb4, hres⟩
  rcases hres with ⟨x, u, rfl, hu, _, _, _, hun⟩ | ⟨rfl, hno⟩
  case inr => exact absurd rfl (hno c HGC.out)
  obtain rfl : c = x := (hun c HGC.out rfl).symm
  have HU := Lib.hid hu
  have HB4 := Lib.hid (below_step HB3.out hb4)
  have S4 := Lib.hid (S3.out.keep hb4)
  obtain ⟨_, _, _, rfl, ⟨lo2, lc2, rfl⟩, ⟨fo2, fc2, rfl⟩, ⟨mo2, mc2, rfl⟩⟩ := cls_shape hu
  clear hu hb4 hun S3
  have hbA : Below w4.heap.size w4 (w4.alloc (.cells #[.string (S c.name), .string (S c.sup), .slice lo2 c.like.length lc2, .bool c.itf, .bool c.abs, .bool c.fin, .slice fo2 c.flds.length fc2, .slice mo2 c.mths.length mc2] 26)) := (Below.refl _ w4).alloc (Nat.le_refl _) _
  have HD0 := Lib.hid (Box.new w4 #[.string (S c.name), .string (S c.sup), .slice lo2 c.like.length lc2, .bool c.itf, .bool c.abs, .bool c.fin, .slice fo2 c.flds.length fc2, .slice mo2 c.mths.length mc2] 26)
  have HU0 := Lib.hid (ClsR.st.keep HU.out (Only.ofBelow (S := fun _ => False) hbA) (fun _ _ => id))
  have HB5 := Lib.hid (below_step HB4.out hbA)
  have S5 := Lib.hid (S4.out.keep hbA)
  clear hbA HU S4
  go_upto_region 8 with fail
  generalize w4.alloc (.cells #[.string (S c.name), .string (S c.sup), .slice lo2 c.like.length lc2, .bool c.itf, .bool c.abs, .bool c.fin, .slice fo2 c.flds.length fc2, .slice mo2 c.mths.length mc2] 26) = W5 at HD0 HU0 HB5 S5 ⊢
  generalize w4.heap.size = D at HD0 ⊢
  have HC5 := Lib.hid (HB0.out.trans (HB5.out.mono HB0.out.size))
  have HS : Hid (∀ W, Below W5.heap.size W5 W → (W.cell? ⟨B, 0, none⟩ = some (.string (S c.name)) ∧ W.cell? ⟨B, 1, none⟩ = some (.string (S c.sup)) ∧ W.cell? ⟨B, 2, none⟩ = some (.slice lo c.like.length lc) ∧ W.cell? ⟨B, 3, none⟩ = some (.bool c.itf) ∧ W.cell? ⟨B, 4, none⟩ = some (.bool c.abs) ∧ W.cell? ⟨B, 5, none⟩ = some (.bool c.fin) ∧ W.cell? ⟨B, 6, none⟩ = some (.slice fo c.flds.length fc) ∧ W.cell? ⟨B, 7, none⟩ = some (.slice mo c.mths.length mc) ∧ W.cell? ⟨D, 0, none⟩ = some (.string (S c.name)) ∧ W.cell? ⟨D, 1, none⟩ = some (.string (S c.sup)) ∧ W.cell? ⟨D, 2, none⟩ = some (.slice lo2 c.like.length lc2) ∧ W.cell? ⟨D, 3, none⟩ = some (.bool c.itf) ∧ W.cell? ⟨D, 4, none⟩ = some (.bool c.abs) ∧ W.cell? ⟨D, 5, none⟩ = some (.bool c.fin) ∧ W.cell? ⟨D, 6, none⟩ = some (.slice fo2 c.flds.length fc2) ∧ W.cell? ⟨D, 7, none⟩ = some (.slice mo2 c.mths.length mc2)) ∧ Sem.run Tryz.prog (convert 31 9 (.slice ao2 m2 c2')) W = .ok (.string (S c.bytes)) W) := Lib.hid (fun W hW => by
    have hx := HBX.out.below (below_step HB5.out hW)
    have hd := HD0.out.below hW
    exact ⟨⟨hx.cell 0 rfl, hx.cell 1 rfl, hx.cell 2 rfl, hx.cell 3 rfl, hx.cell 4 rfl, hx.cell 5 rfl, hx.cell 6 rfl, hx.cell 7 rfl, hd.cell 0 rfl, hd.cell 1 rfl, hd.cell 2 rfl, hd.cell 3 rfl, hd.cell 4 rfl, hd.cell 5 rfl, hd.cell 6 rfl, hd.cell 7 rfl⟩, conv_owned (S5.out.keep hW).row⟩)
  have HA : Hid (∀ W, Below W5.heap.size W5 W → Calls Tryz.prog 12 #[] W (Said true W)) := Lib.hid (fun W hW => awake5_any W (HT.out.keep (HC5.out.trans (hW.mono HC5.out.size))))
  have HPU : Hid (∀ W, Below W5.heap.size W5 W → Calls Tryz.prog 17 #[.agg #[.string (S c.name), .string (S c.sup), .slice lo c.like.length lc, .bool c.itf, .bool c.abs, .bool c.fin, .slice fo c.flds.length fc, .slice mo c.mths.length mc]] W (SaidU (S c.bytes) W)) := Lib.hid (fun W hW => refput5_any c _ W (HVW.out W (below_step HB5.out hW)) HGC.out)
  have HSA : Hid (∀ W, Below W5.heap.size W5 W → Calls Tryz.prog 18 #[.agg #[.string (S c.name), .string (S c.sup), .slice lo c.like.length lc, .bool c.itf, .bool c.abs, .bool c.fin, .slice fo c.flds.length fc, .slice mo c.mths.length mc], .agg #[.string (S c.name), .string (S c.sup), .slice lo2 c.like.length lc2, .bool c.itf, .bool c.abs, .bool c.fin, .slice fo2 c.flds.length fc2, .slice mo2 c.mths.length mc2]] W (Said true W)) := Lib.hid (fun W hW => by
    have q := refsame5_any c c _ _ W (HVW.out W (below_step HB5.out hW)) (ClsR.st.keep HU0.out (Only.ofBelow (S := fun _ => False) hW) (fun _ _ => id)) HFT.out HFT.out
    rw [cls_refl] at q
    exact q)
  generalize S c.bytes = uB at HS HPU
  have hB := Below.refl W5.heap.size W5
  obtain ⟨⟨g0, g1, g2, g3, g4, g5, g6, g7, g8, g9, g10, g11, g12, g13, g14, g15⟩, gc⟩ := HS.out _ hB
  first
  | (go_region_held (fun W => (W.cell? ⟨B, 0, none⟩ = some (.string (S c.name)) ∧ W.cell? ⟨B, 1, none⟩ = some (.string (S c.sup)) ∧ W.cell? ⟨B, 2, none⟩ = some (.slice lo c.like.length lc) ∧ W.cell? ⟨B, 3, none⟩ = some (.bool c.itf) ∧ W.cell? ⟨B, 4, none⟩ = some (.bool c.abs) ∧ W.cell? ⟨B, 5, none⟩ = some (.bool c.fin) ∧ W.cell? ⟨B, 6, none⟩ = some (.slice fo c.flds.length fc) ∧ W.cell? ⟨B, 7, none⟩ = some (.slice mo c.mths.length mc) ∧ W.cell? ⟨D, 0, none⟩ = some (.string (S c.name)) ∧ W.cell? ⟨D, 1, none⟩ = some (.string (S c.sup)) ∧ W.cell? ⟨D, 2, none⟩ = some (.slice lo2 c.like.length lc2) ∧ W.cell? ⟨D, 3, none⟩ = some (.bool c.itf) ∧ W.cell? ⟨D, 4, none⟩ = some (.bool c.abs) ∧ W.cell? ⟨D, 5, none⟩ = some (.bool c.fin) ∧ W.cell? ⟨D, 6, none⟩ = some (.slice fo2 c.flds.length fc2) ∧ W.cell? ⟨D, 7, none⟩ = some (.slice mo2 c.mths.length mc2)) ∧ Sem.run Tryz.prog (convert 31 9 (.slice ao2 m2 c2')) W = .ok (.string uB) W) ((refine HS.out _ ?_; (repeat (first | (with_reducible exact Below.refl _ _) | (with_reducible assumption) | (with_reducible (apply below_step; rotate_left; assumption)) | (with_reducible refine below_drew ?_)))))
      (first
       | (go_at_call 12; refine (HA.out _ ?_).mono ?_; (focus ((repeat (first | (with_reducible exact Below.refl _ _) | (with_reducible assumption) | (with_reducible (apply below_step; rotate_left; assumption)) | (with_reducible refine below_drew ?_))); done)); rintro e wA ⟨rfl, b1⟩)
       | (go_at_call 17; refine (HPU.out _ ?_).mono ?_; (focus ((repeat (first | (with_reducible exact Below.refl _ _) | (with_reducible assumption) | (with_reducible (apply below_step; rotate_left; assumption)) | (with_reducible refine below_drew ?_))); done)); rintro e wB ⟨rfl, b2⟩)
       | (go_at_call 18; refine (HSA.out _ ?_).mono ?_; (focus ((repeat (first | (with_reducible exact Below.refl _ _) | (with_reducible assumption) | (with_reducible (apply below_step; rotate_left; assumption)) | (with_reducible refine below_drew ?_))); done)); rintro e wC ⟨rfl, b3⟩)))
  | fail
  all_goals
    have hbE : Below W5.heap.size W5 wC := by (repeat (first | (with_reducible exact Below.refl _ _) | (with_reducible assumption) | (with_reducible (apply below_step; rotate_left; assumption)) | (with_reducible refine below_drew ?_)))
    have HBE := Lib.hid (HC5.out.trans (hbE.mono HC5.out.size))
    clear hbE
    go_wp2
    go_ret
    exact ⟨rfl, HBE.out⟩
end Go.Proofs.YtkoiamaoimgjjaaGreatDoor
