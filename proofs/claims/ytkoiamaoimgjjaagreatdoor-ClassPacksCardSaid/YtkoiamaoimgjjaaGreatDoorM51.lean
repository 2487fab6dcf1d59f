/-
  The walk of the law ClassGets: a class that is got of any bytes may be, and these are its bytes.
  Conditions: the tables hold what they hold at the start.
-/
import Derived.Test.YtkoiamaoimgjjaaGreatDoorM37
import Derived.Test.YtkoiamaoimgjjaaGreatDoorM48
import Derived.Test.YtkoiamaoimgjjaaGreatDoorM50
import Derived.Test.YtkoiamaoimgjjaaGreatDoorM40
import Derived.Deep.RegionHeld
import Derived.Deep.DrawnRows
namespace Go.Proofs.YtkoiamaoimgjjaaGreatDoor
open Go.RowKit
theorem samB_refl {α : Type} {p : α → α → Bool} (h : ∀ x, p x x = true) (l : List α) : samB p l l = true := by
  unfold samB
  rw [decide_eq_true rfl, Bool.true_and]
  induction l with
  | nil => rfl
  | cons x r ih => rw [List.zip_cons_cons, List.all_cons, h x, ih]; rfl
theorem mth_refl (m : Mth) : Mth.eqB m m = true := by
  unfold Mth.eqB
  rw [samB_refl (p := strEq) (fun x => by simp [strEq]), samB_refl (p := Ins.eqB) (fun x => by simp [Ins.eqB]), samB_refl (p := Cat.eqB) (fun x => by simp [Cat.eqB])]
  simp
theorem cls_refl (c : Cls) : Cls.eqB c c = true := by
  unfold Cls.eqB
  rw [samB_refl (p := strEq) (fun x => by simp [strEq]), samB_refl (p := Fld.eqB) (fun x => by simp [Fld.eqB]), samB_refl (p := Mth.eqB) mth_refl]
  simp
def zeroC : Cls := ⟨[], [], [], false, false, false, [], []⟩
theorem zeroC_fit : zeroC.Fit := by
  refine ⟨by simp [zeroC, strOk], by simp [zeroC, strOk], by simp [zeroC], by simp [zeroC], by simp [zeroC], by simp [zeroC], by simp [zeroC], by simp [zeroC]⟩
theorem zeroC_R (w : World) : ClsR Anyw w zeroC (.agg #[.string ⟨#[]⟩, .string ⟨#[]⟩, .slice none 0 0, .bool false, .bool false, .bool false, .slice none 0 0, .slice none 0 0]) := ⟨_, _, _, rfl, Src.nil, Src.nil, Src.nil⟩
set_option maxHeartbeats 4000000 in
set_option maxRecDepth 100000 in
theorem classGets_any (s : List UInt8) (w : World) (hT : CT w) (hs : s.length ≤ 9223372036854775807) :
    Calls Tryz.prog 5 #[.string (S s)] w (Said true w) := by
  have HT := Lib.hid hT
  have hsz : ((S s).size : Int) = (s.length : Int) := by rw [S_size]
  clear hT
  by_cases h4 : s.length ≤ 4000
  case neg =>
    have h4' : 4000 < (s.length : Int) := by omega
    go_enter Tryz.func5, Tryz.ntmps5
    go_wp2_with fail
    refine (awake5_any w HT.out).mono ?_
    rintro e w1 ⟨rfl, hb⟩
    go_wp2
    go_ret
    exact ⟨rfl, hb⟩
  have h4' : ¬ (4000 < (s.length : Int)) := by omega
  have H4 := Lib.hid h4
  have hcb := conv_back s w
  have hsrc := src_back s w (grownCap w s.length 0 5)
  have hbb := below_back s w
  generalize grownCap w s.length 0 5 = cc at hcb hsrc
  generalize Lib.bytesWorld w 5 (S s) = w1 at hcb hsrc hbb
  have HSRC := Lib.hid hsrc
  have B1 := Lib.hid hbb
  clear hsrc hbb h4
  go_enter Tryz.func5, Tryz.ntmps5
  go_wp2_with fail
  refine (cget_any _ s w1 HSRC.out (HT.out.keep B1.out) (by have := H4.out; omega)).mono ?_
  rintro e w2 ⟨hb2, hres⟩
  have B2 := Lib.hid (B1.out.trans (hb2.mono B1.out.size))
  clear hcb hb2 h4' hsz
  rcases hres with ⟨x, u, rfl, hu, hgx, hfx, hpx, _⟩ | ⟨rfl, hno⟩
  · have HU := Lib.hid hu
    have HGX := Lib.hid hgx
    have HFX := Lib.hid hfx
    obtain ⟨_, _, _, rfl, ⟨lo, lc, rfl⟩, ⟨fo, fc, rfl⟩, ⟨mo, mc, rfl⟩⟩ := cls_shape hu
    have HPX := Lib.hid hpx
    clear hu hgx hfx hpx
    have hbA : Below w2.heap.size w2 (w2.alloc (.cells #[.string (S x.name), .string (S x.sup), .slice lo x.like.length lc, .bool x.itf, .bool x.abs, .bool x.fin, .slice fo x.flds.length fc, .slice mo x.mths.length mc] 26)) := (Below.refl _ w2).alloc (Nat.le_refl _) _
    have HD0 := Lib.hid (Box.new w2 #[.string (S x.name), .string (S x.sup), .slice lo x.like.length lc, .bool x.itf, .bool x.abs, .bool x.fin, .slice fo x.flds.length fc, .slice mo x.mths.length mc] 26)
    have HU0 := Lib.hid (ClsR.st.keep HU.out (Only.ofBelow (S := fun _ => False) hbA) (fun _ _ => id))
    have B3 := Lib.hid (B2.out.trans (hbA.mono B2.out.size))
    clear hbA HU
    go_upto_region 6 with fail
    generalize w2.alloc (.cells #[.string (S x.name), .string (S x.sup), .slice lo x.like.length lc, .bool x.itf, .bool x.abs, .bool x.fin, .slice fo x.flds.length fc, .slice mo x.mths.length mc] 26) = W3 at HD0 HU0 B3 ⊢
    generalize w2.heap.size = D at HD0 ⊢
    go_wp2_with fail
    refine (awake5_any W3 (HT.out.keep B3.out)).mono ?_
    rintro e w4 ⟨rfl, hb4⟩
    have HD4 := Lib.hid (HD0.out.below hb4)
    have HU4 := Lib.hid (ClsR.st.keep HU0.out (Only.ofBelow (S := fun _ => False) hb4) (fun _ _ => id))
    have B4 := Lib.hid (B3.out.trans (hb4.mono B3.out.size))
    clear hb4 HD0 HU0 B3
    have c0 := HD4.out.cell 0 rfl
    have c1 := HD4.out.cell 1 rfl
    have c2 := HD4.out.cell 2 rfl
    have c3 := HD4.out.cell 3 rfl
    have c4 := HD4.out.cell 4 rfl
    have c5 := HD4.out.cell 5 rfl
    have c6 := HD4.out.cell 6 rfl
    have c7 := HD4.out.cell 7 rfl
    have hrc := refcheck5_any x _ w4 HU4.out HFX.out
    rw [HGX.out.e] at hrc
    have HRC := Lib.hid hrc
    clear hrc
    go_wp2_with fail
    refine HRC.out.mono ?_
    rintro e w5 ⟨rfl, hb5⟩
    have HD5 := Lib.hid (HD4.out.below hb5)
    have HU5 := Lib.hid (ClsR.st.keep HU4.out (Only.ofBelow (S := fun _ => False) hb5) (fun _ _ => id))
    have B5 := Lib.hid (B4.out.trans (hb5.mono B4.out.size))
    clear hb5 HD4 HU4 B4 HRC c0 c1 c2 c3 c4 c5 c6 c7
    have c0 := HD5.out.cell 0 rfl
    have c1 := HD5.out.cell 1 rfl
    have c2 := HD5.out.cell 2 rfl
    have c3 := HD5.out.cell 3 rfl
    have c4 := HD5.out.cell 4 rfl
    have c5 := HD5.out.cell 5 rfl
    have c6 := HD5.out.cell 6 rfl
    have c7 := HD5.out.cell 7 rfl
    have hrp := refput5_any x _ w5 HU5.out HGX.out
    rw [HPX.out] at hrp
    have HRP := Lib.hid hrp
    clear hrp
    generalize S s = uS at HRP ⊢
    go_wp2_with fail
    refine HRP.out.mono ?_
    rintro e w6 ⟨rfl, hb6⟩
    have B6 := Lib.hid (B5.out.trans (hb6.mono B5.out.size))
    clear hb6 HRP c0 c1 c2 c3 c4 c5 c6 c7
    go_wp2
    go_ret
    exact ⟨rfl, B6.out⟩
  · clear hno
    have hbA : Below w2.heap.size w2 (w2.alloc (.cells #[.string ⟨#[]⟩, .string ⟨#[]⟩, .slice none 0 0, .bool false, .bool false, .bool false, .slice none 0 0, .slice none 0 0] 26)) := (Below.refl _ w2).alloc (Nat.le_refl _) _
    have HD0 := Lib.hid (Box.new w2 #[.string ⟨#[]⟩, .string ⟨#[]⟩, .slice none 0 0, .bool false, .bool false, .bool false, .slice none 0 0, .slice none 0 0] 26)
    have B3 := Lib.hid (B2.out.trans (hbA.mono B2.out.size))
    clear hbA
    go_upto_region 5 with fail
    generalize w2.alloc (.cells #[.string ⟨#[]⟩, .string ⟨#[]⟩, .slice none 0 0, .bool false, .bool false, .bool false, .slice none 0 0, .slice none 0 0] 26) = W3 at HD0 B3 ⊢
    generalize w2.heap.size = D at HD0 ⊢
    go_wp2_with fail
    refine (awake5_any W3 (HT.out.keep B3.out)).mono ?_
    rintro e w4 ⟨rfl, hb4⟩
    have HD4 := Lib.hid (HD0.out.below hb4)
    have B4 := Lib.hid (B3.out.trans (hb4.mono B3.out.size))
    clear hb4 HD0 B3
    have c0 := HD4.out.cell 0 rfl
    have c1 := HD4.out.cell 1 rfl
    have c2 := HD4.out.cell 2 rfl
    have c3 := HD4.out.cell 3 rfl
    have c4 := HD4.out.cell 4 rfl
    have c5 := HD4.out.cell 5 rfl
    have c6 := HD4.out.cell 6 rfl
    have c7 := HD4.out.cell 7 rfl
    have hrs := refsame5_any zeroC zeroC _ _ w4 (zeroC_R w4) (zeroC_R w4) zeroC_fit zeroC_fit
    rw [cls_refl] at hrs
    have HRS := Lib.hid hrs
    clear hrs
    go_wp2_with fail
    refine HRS.out.mono ?_
    rintro e w5 ⟨rfl, hb5⟩
    have B5 := Lib.hid (B4.out.trans (hb5.mono B4.out.size))
    clear hb5 HRS c0 c1 c2 c3 c4 c5 c6 c7
    go_wp2
    go_ret
    exact ⟨rfl, B5.out⟩
end Go.Proofs.YtkoiamaoimgjjaaGreatDoor
