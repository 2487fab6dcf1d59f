/-
  The contract of the laws' awake of layer 5: the chapter's example comes out as the chapter says, and is itself again.
  Conditions: the tables hold what they hold at the start.
-/
import Derived.Test.YtpincofjopmaaaaGreatDoorM29
import Derived.Test.YtpincofjopmaaaaGreatDoorM32
import Derived.Test.YtpincofjopmaaaaGreatDoorM36
namespace Go.Proofs.YtpincofjopmaaaaGreatDoor
open Go.RowKit
def exM : Mth := ⟨[103, 111], [], [105, 110, 116], false, 1, [⟨[105, 110, 116], 1, []⟩, ⟨[114, 101, 116, 117, 114, 110], 0, []⟩], []⟩
def exC : Cls := ⟨[78, 111, 100, 101], [79, 98, 106, 101, 99, 116], [], false, false, false, [⟨[110, 101, 120, 116], [78, 111, 100, 101], false⟩], [exM]⟩
def exS : Mth := ⟨[], [[105, 110, 116], [78, 111, 100, 101, 91, 93]], [116, 101, 120, 116], false, 0, [], []⟩
theorem exC_e : exC.e = 0 := by decide +kernel
theorem exC_eq : Cls.eqB exC exC = true := by decide +kernel
theorem exS_sign : signB exS = [40, 105, 110, 116, 44, 78, 111, 100, 101, 91, 93, 41, 116, 101, 120, 116] := by decide +kernel
theorem exS_brief : exS.brief := by
  have h : (Lib.join exS.params [44]).length = 10 := by decide +kernel
  exact ⟨by omega, by decide, by decide⟩
theorem exC_held : exC.held := by
  intro m hm
  simp [exC] at hm
  subst hm
  refine ⟨⟨by decide, by decide⟩, fun x hx => ?_, fun x hx => by simp [exM] at hx⟩
  simp [exM] at hx
  rcases hx with rfl | rfl <;> exact ⟨by decide, by decide⟩
theorem exC_fit : exC.Fit := by
  refine ⟨by simp [exC, strOk], by simp [exC, strOk], by simp [exC], fun f hf => ?_, fun m hm => ?_, by simp [exC], by simp [exC], by simp [exC]⟩
  · simp [exC] at hf
    subst hf
    simp [strOk]
  · simp [exC] at hm
    subst hm
    refine ⟨by simp [exM, strOk], by simp [exM, strOk], by simp [exM], fun x hx => ?_, by simp [exM], by simp [exM], by simp [exM], by simp [exM]⟩
    simp [exM] at hx
    rcases hx with rfl | rfl <;> simp [strOk]
theorem exC_good : exC.Good := ⟨exC_e, exC_held⟩
/-- A slice of one element in a block of its own. -/
theorem src_one {α : Type} {n : Nat} {R : ElemRel α} {w : World} {b : Nat} {t : TypeId} (x : α) (v : Value) (hv : R Anyw w x v) (hs : v.cells.size = n) (hb : w.heap[b]? = some (.cells v.cells t (0, 0))) : Src n R Anyw w (.slice (some ⟨b, 0, none⟩) 1 1) [x] := by
  refine .inr ⟨b, 0, 1, rfl, ⟨trivial, lt_of_block hb, by simp, by decide⟩, fun k y hy => ?_⟩
  match k, hy with
  | 0, hy =>
    simp at hy
    subst hy
    refine ⟨v, hv, hs, fun j u hj => ?_⟩
    simp only [Nat.zero_mul, Nat.zero_add]
    unfold World.cell?
    rw [hb]
    exact hj
  | k + 1, hy => simp at hy
/-- A slice of two elements of one size in a block of its own. -/
theorem src_two {α : Type} {n : Nat} {R : ElemRel α} {w : World} {b : Nat} {t : TypeId} (x y : α) (u v : Value) (hu : R Anyw w x u) (hv : R Anyw w y v) (hs : u.cells.size = n) (hs2 : v.cells.size = n) (hb : w.heap[b]? = some (.cells (u.cells ++ v.cells) t (0, 0))) : Src n R Anyw w (.slice (some ⟨b, 0, none⟩) 2 2) [x, y] := by
  refine .inr ⟨b, 0, 2, rfl, ⟨trivial, lt_of_block hb, by simp, by decide⟩, fun k z hz => ?_⟩
  match k, hz with
  | 0, hz =>
    simp at hz
    subst hz
    refine ⟨u, hu, hs, fun j q hj => ?_⟩
    have hjl := cells_lt hs hj
    simp only [Nat.zero_mul, Nat.zero_add]
    unfold World.cell?
    rw [hb]
    show (u.cells ++ v.cells)[j]? = some q
    rw [Array.getElem?_append_left (by omega)]
    exact hj
  | 1, hz =>
    simp at hz
    subst hz
    refine ⟨v, hv, hs2, fun j q hj => ?_⟩
    rw [Nat.one_mul, Nat.zero_add]
    unfold World.cell?
    rw [hb]
    show (u.cells ++ v.cells)[n + j]? = some q
    rw [Array.getElem?_append_right (by omega), hs, Nat.add_sub_cancel_left]
    exact hj
  | k + 2, hz => simp at hz
theorem boxes4 (w : World) (a b c d : Array Value) (s t u v : TypeId) :
    Box ((((w.alloc (.cells a s)).alloc (.cells b t)).alloc (.cells c u)).alloc (.cells d v)) w.heap.size a s ∧ Box ((((w.alloc (.cells a s)).alloc (.cells b t)).alloc (.cells c u)).alloc (.cells d v)) (w.heap.size + 1) b t ∧
    Box ((((w.alloc (.cells a s)).alloc (.cells b t)).alloc (.cells c u)).alloc (.cells d v)) (w.heap.size + 1 + 1) c u ∧ Box ((((w.alloc (.cells a s)).alloc (.cells b t)).alloc (.cells c u)).alloc (.cells d v)) (w.heap.size + 1 + 1 + 1) d v ∧
    Below w.heap.size w ((((w.alloc (.cells a s)).alloc (.cells b t)).alloc (.cells c u)).alloc (.cells d v)) := by
  have up : ∀ (W : World) (o : Obj), Below W.heap.size W (W.alloc o) := fun W o => (Below.refl _ W).alloc (Nat.le_refl _) o
  have b1 := Box.new w a s
  have b2 : Box ((w.alloc (.cells a s)).alloc (.cells b t)) (w.heap.size + 1) b t := by have q := Box.new (w.alloc (.cells a s)) b t; simpa using q
  have b3 : Box (((w.alloc (.cells a s)).alloc (.cells b t)).alloc (.cells c u)) (w.heap.size + 1 + 1) c u := by have q := Box.new ((w.alloc (.cells a s)).alloc (.cells b t)) c u; simpa using q
  have b4 : Box ((((w.alloc (.cells a s)).alloc (.cells b t)).alloc (.cells c u)).alloc (.cells d v)) (w.heap.size + 1 + 1 + 1) d v := by have q := Box.new (((w.alloc (.cells a s)).alloc (.cells b t)).alloc (.cells c u)) d v; simpa using q
  exact ⟨((b1.below (up _ _)).below (up _ _)).below (up _ _), (b2.below (up _ _)).below (up _ _), b3.below (up _ _), b4, below_alloc (below_alloc (below_alloc (up _ _) _) _) _⟩
set_option maxHeartbeats 4000000 in
set_option maxRecDepth 100000 in
theorem awake5_any (w : World) (hT : CT w) :
    Calls Tryz.prog 15 #[] w (Said true w) := by
  have HT := Lib.hid hT
  clear hT
  obtain ⟨bF, bI, bM, bC, hb0⟩ := boxes4 w #[.string ⟨#[110, 101, 120, 116]⟩, .string ⟨#[78, 111, 100, 101]⟩, .bool false] #[.string ⟨#[105, 110, 116]⟩, .int .i64 1, .string ⟨#[]⟩, .string ⟨#[114, 101, 116, 117, 114, 110]⟩, .int .i64 0, .string ⟨#[]⟩] #[.string ⟨#[103, 111]⟩, .slice none 0 0, .string ⟨#[105, 110, 116]⟩, .bool false, .int .i64 1, .slice (some ⟨w.heap.size + 1, 0, none⟩) 2 2, .slice none 0 0] #[.string ⟨#[78, 111, 100, 101]⟩, .string ⟨#[79, 98, 106, 101, 99, 116]⟩, .slice none 0 0, .bool false, .bool false, .bool false, .slice (some ⟨w.heap.size, 0, none⟩) 1 1, .slice (some ⟨w.heap.size + 1 + 1, 0, none⟩) 1 1] 62 70 33 26
  have HF := Lib.hid bF
  have HI := Lib.hid bI
  have HM := Lib.hid bM
  have HC := Lib.hid bC
  have HB0 := Lib.hid hb0
  clear bF bI bM bC hb0
  go_enter Tryz.func15, Tryz.ntmps15
  go_wp2_with fail
  generalize (((w.alloc (.cells #[.string ⟨#[110, 101, 120, 116]⟩, .string ⟨#[78, 111, 100, 101]⟩, .bool false] 62)).alloc (.cells #[.string ⟨#[105, 110, 116]⟩, .int .i64 1, .string ⟨#[]⟩, .string ⟨#[114, 101, 116, 117, 114, 110]⟩, .int .i64 0, .string ⟨#[]⟩] 70)).alloc (.cells #[.string ⟨#[103, 111]⟩, .slice none 0 0, .string ⟨#[105, 110, 116]⟩, .bool false, .int .i64 1, .slice (some ⟨w.heap.size + 1, 0, none⟩) 2 2, .slice none 0 0] 33)).alloc (.cells #[.string ⟨#[78, 111, 100, 101]⟩, .string ⟨#[79, 98, 106, 101, 99, 116]⟩, .slice none 0 0, .bool false, .bool false, .bool false, .slice (some ⟨w.heap.size, 0, none⟩) 1 1, .slice (some ⟨w.heap.size + 1 + 1, 0, none⟩) 1 1] 26) = W0 at HF HI HM HC HB0 ⊢
  generalize w.heap.size + 1 + 1 + 1 = BC at HC ⊢
  generalize w.heap.size + 1 + 1 = BM at HM HC ⊢
  generalize w.heap.size + 1 = BI at HI HM ⊢
  obtain ⟨BF, hBF⟩ : ∃ B, B = w.heap.size := ⟨_, rfl⟩
  rw [← hBF] at HF HC ⊢
  clear hBF
  have HR : Hid (ClsR Anyw W0 exC (.agg #[.string ⟨#[78, 111, 100, 101]⟩, .string ⟨#[79, 98, 106, 101, 99, 116]⟩, .slice none 0 0, .bool false, .bool false, .bool false, .slice (some ⟨BF, 0, none⟩) 1 1, .slice (some ⟨BM, 0, none⟩) 1 1])) := Lib.hid ⟨_, _, _, rfl, Src.nil, src_one _ (fldV ⟨[110, 101, 120, 116], [78, 111, 100, 101], false⟩) rfl rfl HF.out, src_one exM (.agg #[.string ⟨#[103, 111]⟩, .slice none 0 0, .string ⟨#[105, 110, 116]⟩, .bool false, .int .i64 1, .slice (some ⟨BI, 0, none⟩) 2 2, .slice none 0 0]) ⟨_, _, _, rfl, Src.nil, src_two _ _ (insVal ⟨[105, 110, 116], 1, []⟩) (insVal ⟨[114, 101, 116, 117, 114, 110], 0, []⟩) rfl rfl rfl rfl HI.out, Src.nil⟩ rfl HM.out⟩
  refine (cput_any exC _ W0 HR.out (HT.out.keep HB0.out) exC_fit exC_held).mono ?_
  rintro e w1 ⟨h1, _⟩
  obtain ⟨v1, rfl, s1⟩ := h1 exC_e
  obtain ⟨ao1, m1, c1, rfl⟩ := row_shape s1.row
  have S1 := Lib.hid s1
  have HB1 := Lib.hid (HB0.out.trans (s1.bel.mono HB0.out.size))
  clear h1 s1
  go_wp2_with fail
  refine (cget_any _ exC.bytes w1 (.ofRow S1.out.row) (HT.out.keep HB1.out) (Nat.le_trans exC_good.le (by decide))).mono ?_
  rintro e w2 ⟨hb2, hres⟩
  rcases hres with ⟨x, u, rfl, hu, _, _, _, hun⟩ | ⟨rfl, hno⟩
  case inr => exact absurd rfl (hno exC exC_good)
  obtain rfl := hun exC exC_good rfl
  have HU := Lib.hid hu
  have HB2 := Lib.hid (HB1.out.trans (hb2.mono HB1.out.size))
  have HW12 := Lib.hid (below_step S1.out.bel hb2)
  obtain ⟨_, _, _, rfl, ⟨lo, lc, rfl⟩, ⟨fo, fc, rfl⟩, ⟨mo, mc, rfl⟩⟩ := cls_shape hu
  clear hu hb2 hun
  go_wp2_with fail
  have up : ∀ (W : World) (o : Obj), Below W.heap.size W (W.alloc o) := fun W o => (Below.refl _ W).alloc (Nat.le_refl _) o
  have HD0 := Lib.hid ((Box.new w2 #[.string (S exC.name), .string (S exC.sup), .slice lo exC.like.length lc, .bool exC.itf, .bool exC.abs, .bool exC.fin, .slice fo exC.flds.length fc, .slice mo exC.mths.length mc] 26).below (up _ (.cells #[.string ⟨#[105, 110, 116]⟩, .string ⟨#[78, 111, 100, 101, 91, 93]⟩] 9)))
  have HP0 : Hid (Box ((w2.alloc (.cells #[.string (S exC.name), .string (S exC.sup), .slice lo exC.like.length lc, .bool exC.itf, .bool exC.abs, .bool exC.fin, .slice fo exC.flds.length fc, .slice mo exC.mths.length mc] 26)).alloc (.cells #[.string ⟨#[105, 110, 116]⟩, .string ⟨#[78, 111, 100, 101, 91, 93]⟩] 9)) (w2.heap.size + 1) #[.string ⟨#[105, 110, 116]⟩, .string ⟨#[78, 111, 100, 101, 91, 93]⟩] 9) := Lib.hid (by have q := Box.new (w2.alloc (.cells #[.string (S exC.name), .string (S exC.sup), .slice lo exC.like.length lc, .bool exC.itf, .bool exC.abs, .bool exC.fin, .slice fo exC.flds.length fc, .slice mo exC.mths.length mc] 26)) #[.string ⟨#[105, 110, 116]⟩, .string ⟨#[78, 111, 100, 101, 91, 93]⟩] 9; simpa using q)
  have HB23 : Hid (Below w2.heap.size w2 ((w2.alloc (.cells #[.string (S exC.name), .string (S exC.sup), .slice lo exC.like.length lc, .bool exC.itf, .bool exC.abs, .bool exC.fin, .slice fo exC.flds.length fc, .slice mo exC.mths.length mc] 26)).alloc (.cells #[.string ⟨#[105, 110, 116]⟩, .string ⟨#[78, 111, 100, 101, 91, 93]⟩] 9))) := Lib.hid (below_alloc (up _ _) _)
  generalize (w2.alloc (.cells #[.string (S exC.name), .string (S exC.sup), .slice lo exC.like.length lc, .bool exC.itf, .bool exC.abs, .bool exC.fin, .slice fo exC.flds.length fc, .slice mo exC.mths.length mc] 26)).alloc (.cells #[.string ⟨#[105, 110, 116]⟩, .string ⟨#[78, 111, 100, 101, 91, 93]⟩] 9) = W3 at HD0 HP0 HB23 ⊢
  clear up
  have HB3 := Lib.hid (HB2.out.trans (HB23.out.mono HB2.out.size))
  have HC3 := Lib.hid (HC.out.below (below_step HW12.out HB23.out))
  have HR3 := Lib.hid (ClsR.st.keep (ClsR.st.keep HR.out (Only.ofBelow (S := fun _ => False) HW12.out) (fun _ _ => id)) (Only.ofBelow (S := fun _ => False) HB23.out) (fun _ _ => id))
  have HU3 := Lib.hid (ClsR.st.keep HU.out (Only.ofBelow (S := fun _ => False) HB23.out) (fun _ _ => id))
  clear HC HR HU HB23 HW12 HF HI HM HB0 HB1 HB2
  generalize w2.heap.size + 1 = BP at HP0 ⊢
  generalize w2.heap.size = BD at HD0 ⊢
  have hcs := csign_any (A := Anyw) exS _ W3 ⟨_, _, _, rfl, src_two _ _ (strV [105, 110, 116]) (strV [78, 111, 100, 101, 91, 93]) rfl rfl rfl rfl HP0.out, Src.nil, Src.nil⟩ exS_brief
  rw [exS_sign] at hcs
  refine hcs.mono ?_
  clear hcs
  rintro e w3 ⟨he, hb3⟩
  obtain rfl : e = .returned (.string ⟨#[40, 105, 110, 116, 44, 78, 111, 100, 101, 91, 93, 41, 116, 101, 120, 116]⟩) := he
  have HB4 := Lib.hid (HB3.out.trans (hb3.mono HB3.out.size))
  have HC4 := Lib.hid (HC3.out.below hb3)
  have HD4 := Lib.hid (HD0.out.below hb3)
  have HR4 := Lib.hid (ClsR.st.keep HR3.out (Only.ofBelow (S := fun _ => False) hb3) (fun _ _ => id))
  have HU4 := Lib.hid (ClsR.st.keep HU3.out (Only.ofBelow (S := fun _ => False) hb3) (fun _ _ => id))
  clear hb3 HC3 HD0 HR3 HU3 HB3 HP0
  have hs4 : ∀ W, ClsR Anyw W exC (.agg #[.string ⟨#[78, 111, 100, 101]⟩, .string ⟨#[79, 98, 106, 101, 99, 116]⟩, .slice none 0 0, .bool false, .bool false, .bool false, .slice (some ⟨BF, 0, none⟩) 1 1, .slice (some ⟨BM, 0, none⟩) 1 1]) → ClsR (fun k => w1.heap.size ≤ k) W exC (.agg #[.string (S exC.name), .string (S exC.sup), .slice lo exC.like.length lc, .bool exC.itf, .bool exC.abs, .bool exC.fin, .slice fo exC.flds.length fc, .slice mo exC.mths.length mc]) → Calls Tryz.prog 19 #[.agg #[.string ⟨#[78, 111, 100, 101]⟩, .string ⟨#[79, 98, 106, 101, 99, 116]⟩, .slice none 0 0, .bool false, .bool false, .bool false, .slice (some ⟨BF, 0, none⟩) 1 1, .slice (some ⟨BM, 0, none⟩) 1 1], .agg #[.string (S exC.name), .string (S exC.sup), .slice lo exC.like.length lc, .bool exC.itf, .bool exC.abs, .bool exC.fin, .slice fo exC.flds.length fc, .slice mo exC.mths.length mc]] W (Said true W) := fun W h1 h2 => by
    have q := refsame5_any exC exC _ _ W h1 h2 exC_fit exC_fit
    rw [exC_eq] at q
    exact q
  have hk4 : ∀ W, ClsR Anyw W exC (.agg #[.string ⟨#[78, 111, 100, 101]⟩, .string ⟨#[79, 98, 106, 101, 99, 116]⟩, .slice none 0 0, .bool false, .bool false, .bool false, .slice (some ⟨BF, 0, none⟩) 1 1, .slice (some ⟨BM, 0, none⟩) 1 1]) → CT W → Calls Tryz.prog 46 #[.agg #[.string ⟨#[78, 111, 100, 101]⟩, .string ⟨#[79, 98, 106, 101, 99, 116]⟩, .slice none 0 0, .bool false, .bool false, .bool false, .slice (some ⟨BF, 0, none⟩) 1 1, .slice (some ⟨BM, 0, none⟩) 1 1]] W fun e w' => e = .returned (.int .i64 0) ∧ Below W.heap.size W w' := fun W h1 hT => by
    have q := ccheck_any exC _ W h1 hT exC_fit
    rw [exC_e] at q
    exact q
  have hm4 : ∀ W, ClsR Anyw W exC (.agg #[.string ⟨#[78, 111, 100, 101]⟩, .string ⟨#[79, 98, 106, 101, 99, 116]⟩, .slice none 0 0, .bool false, .bool false, .bool false, .slice (some ⟨BF, 0, none⟩) 1 1, .slice (some ⟨BM, 0, none⟩) 1 1]) → ClsR (fun k => w1.heap.size ≤ k) W exC (.agg #[.string (S exC.name), .string (S exC.sup), .slice lo exC.like.length lc, .bool exC.itf, .bool exC.abs, .bool exC.fin, .slice fo exC.flds.length fc, .slice mo exC.mths.length mc]) → Calls Tryz.prog 18 #[.agg #[.string ⟨#[78, 111, 100, 101]⟩, .string ⟨#[79, 98, 106, 101, 99, 116]⟩, .slice none 0 0, .bool false, .bool false, .bool false, .slice (some ⟨BF, 0, none⟩) 1 1, .slice (some ⟨BM, 0, none⟩) 1 1], .agg #[.string (S exC.name), .string (S exC.sup), .slice lo exC.like.length lc, .bool exC.itf, .bool exC.abs, .bool exC.fin, .slice fo exC.flds.length fc, .slice mo exC.mths.length mc]] W (Said true W) := fun W h1 h2 => by
    have q := csame_any exC exC _ _ W h1 h2 exC_fit exC_fit
    rw [exC_eq] at q
    exact q
  have HS4 := Lib.hid hs4
  have HK4 := Lib.hid hk4
  have HM4 := Lib.hid hm4
  clear hs4 hk4 hm4
  have p0 := HC4.out.cell 0 rfl
  have p1 := HC4.out.cell 1 rfl
  have p2 := HC4.out.cell 2 rfl
  have p3 := HC4.out.cell 3 rfl
  have p4 := HC4.out.cell 4 rfl
  have p5 := HC4.out.cell 5 rfl
  have p6 := HC4.out.cell 6 rfl
  have p7 := HC4.out.cell 7 rfl
  have q0 := HD4.out.cell 0 rfl
  have q1 := HD4.out.cell 1 rfl
  have q2 := HD4.out.cell 2 rfl
  have q3 := HD4.out.cell 3 rfl
  have q4 := HD4.out.cell 4 rfl
  have q5 := HD4.out.cell 5 rfl
  have q6 := HD4.out.cell 6 rfl
  have q7 := HD4.out.cell 7 rfl
  go_wp2_with fail
  refine (HS4.out w3 HR4.out HU4.out).mono ?_
  rintro e w5 ⟨rfl, hb5⟩
  have HB5 := Lib.hid (HB4.out.trans (hb5.mono HB4.out.size))
  have HC5 := Lib.hid (HC4.out.below hb5)
  have HD5 := Lib.hid (HD4.out.below hb5)
  have HR5 := Lib.hid (ClsR.st.keep HR4.out (Only.ofBelow (S := fun _ => False) hb5) (fun _ _ => id))
  have HU5 := Lib.hid (ClsR.st.keep HU4.out (Only.ofBelow (S := fun _ => False) hb5) (fun _ _ => id))
  clear hb5 HC4 HD4 HR4 HU4 HB4 p0 p1 p2 p3 p4 p5 p6 p7 q0 q1 q2 q3 q4 q5 q6 q7
  have p0 := HC5.out.cell 0 rfl
  have p1 := HC5.out.cell 1 rfl
  have p2 := HC5.out.cell 2 rfl
  have p3 := HC5.out.cell 3 rfl
  have p4 := HC5.out.cell 4 rfl
  have p5 := HC5.out.cell 5 rfl
  have p6 := HC5.out.cell 6 rfl
  have p7 := HC5.out.cell 7 rfl
  have q0 := HD5.out.cell 0 rfl
  have q1 := HD5.out.cell 1 rfl
  have q2 := HD5.out.cell 2 rfl
  have q3 := HD5.out.cell 3 rfl
  have q4 := HD5.out.cell 4 rfl
  have q5 := HD5.out.cell 5 rfl
  have q6 := HD5.out.cell 6 rfl
  have q7 := HD5.out.cell 7 rfl
  go_wp2_with fail
  refine (HK4.out w5 HR5.out (HT.out.keep HB5.out)).mono ?_
  rintro e w6 ⟨rfl, hb6⟩
  have HB6 := Lib.hid (HB5.out.trans (hb6.mono HB5.out.size))
  have HC6 := Lib.hid (HC5.out.below hb6)
  have HD6 := Lib.hid (HD5.out.below hb6)
  have HR6 := Lib.hid (ClsR.st.keep HR5.out (Only.ofBelow (S := fun _ => False) hb6) (fun _ _ => id))
  have HU6 := Lib.hid (ClsR.st.keep HU5.out (Only.ofBelow (S := fun _ => False) hb6) (fun _ _ => id))
  clear hb6 HC5 HD5 HR5 HU5 HB5 p0 p1 p2 p3 p4 p5 p6 p7 q0 q1 q2 q3 q4 q5 q6 q7
  have p0 := HC6.out.cell 0 rfl
  have p1 := HC6.out.cell 1 rfl
  have p2 := HC6.out.cell 2 rfl
  have p3 := HC6.out.cell 3 rfl
  have p4 := HC6.out.cell 4 rfl
  have p5 := HC6.out.cell 5 rfl
  have p6 := HC6.out.cell 6 rfl
  have p7 := HC6.out.cell 7 rfl
  have q0 := HD6.out.cell 0 rfl
  have q1 := HD6.out.cell 1 rfl
  have q2 := HD6.out.cell 2 rfl
  have q3 := HD6.out.cell 3 rfl
  have q4 := HD6.out.cell 4 rfl
  have q5 := HD6.out.cell 5 rfl
  have q6 := HD6.out.cell 6 rfl
  have q7 := HD6.out.cell 7 rfl
  go_wp2_with fail
  refine (HM4.out w6 HR6.out HU6.out).mono ?_
  rintro e w7 ⟨rfl, hb7⟩
  have HB7 := Lib.hid (HB6.out.trans (hb7.mono HB6.out.size))
  have HC7 := Lib.hid (HC6.out.below hb7)
  have HD7 := Lib.hid (HD6.out.below hb7)
  have HR7 := Lib.hid (ClsR.st.keep HR6.out (Only.ofBelow (S := fun _ => False) hb7) (fun _ _ => id))
  have HU7 := Lib.hid (ClsR.st.keep HU6.out (Only.ofBelow (S := fun _ => False) hb7) (fun _ _ => id))
  clear hb7 HC6 HD6 HR6 HU6 HB6 p0 p1 p2 p3 p4 p5 p6 p7 q0 q1 q2 q3 q4 q5 q6 q7
  go_wp2
  go_ret
  exact ⟨rfl, HB7.out⟩
end Go.Proofs.YtpincofjopmaaaaGreatDoor
