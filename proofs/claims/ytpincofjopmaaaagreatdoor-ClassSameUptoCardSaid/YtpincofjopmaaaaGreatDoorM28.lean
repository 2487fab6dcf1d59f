/-
  The contracts of package class's putClass and Put: a class that may be as bytes, or the error that it has.
  Conditions: the class's parts lie in memory that was there before; the tables hold what they hold at the start; texts and lists that a machine may hold.
-/
import Derived.Test.YtpincofjopmaaaaGreatDoorM26
import Derived.Test.YtpincofjopmaaaaGreatDoorM27
namespace Go.Proofs.YtpincofjopmaaaaGreatDoor
open Go.RowKit
attribute [local go_sem ↓] Go.wp_at_zero Go.wp_at_succ
set_option maxHeartbeats 40000000 in
set_option maxRecDepth 100000 in
theorem putclass_any {A : Nat → Prop} (c : Cls) (v : Value) (w : World) (hv : ClsR A w c v) (hg : c.Good) (hT : CT w) :
    Calls Tryz.prog 94 #[v] w (Bytes' w c.bytes) := by
  obtain ⟨lv, fv, mv, rfl, hl, hf, hm⟩ := hv
  obtain ⟨lo, lc, rfl⟩ := hl.shape
  obtain ⟨fo, fc, rfl⟩ := hf.shape
  obtain ⟨mo, mc, rfl⟩ := hm.shape
  have hl1 := classB_len hg.name
  have hl2 := classB_len hg.above.1
  have hb1 := text_le c.name 32 hl1 (by decide)
  have hb2 := text_le c.sup 32 hl2 (by decide)
  have hb3 := listB_le textBytes 42 32 c.like (fun x hx => text_le x 32 (classB_len (hg.above.2 x hx)) (by decide)) hg.nums.1 (by decide)
  have hb4 := listB_le Fld.bytes 100 32 c.flds (fun x hx => fld_le (hg.flds x hx)) hg.nums.2.1 (by decide)
  have hb5 := listB_le Mth.bytes 209740000 32 c.mths (fun x hx => (hg.mths x hx).le) hg.nums.2.2 (by decide)
  have HTX : Hid (∀ X W, W.cell? ⟨X, 0, none⟩ = some (.string (S c.name)) → W.cell? ⟨X, 1, none⟩ = some (.string (S c.sup)) → Calls Tryz.prog 141 #[.slice (some ⟨X, 0, none⟩) 2 2] W (Mk (textBytes c.name ++ textBytes c.sup) W)) := Lib.hid (fun X W h0 h1 =>
    (ctexts_any [c.name, c.sup] X 0 2 W (World.block_lt_of_cell? W _ h0) (fun j hj => by
      match j, hj with
      | 0, _ => simpa using h0
      | 1, _ => simpa using h1
      | j + 2, hj => exact absurd hj (by simp)) (by simp [textsMost]; omega) (by simp [texts]; omega)).mono fun _ _ h => by
        have q := mk_of_bytes h
        rw [show texts [c.name, c.sup] = textBytes c.name ++ textBytes c.sup from by simp [texts]] at q
        exact q)
  have HFL : Hid (∀ X W, W.cell? ⟨X, 0, none⟩ = some (.bool c.itf) → W.cell? ⟨X, 1, none⟩ = some (.bool c.abs) → W.cell? ⟨X, 2, none⟩ = some (.bool c.fin) → Calls Tryz.prog 144 #[.slice (some ⟨X, 0, none⟩) 3 3] W (Mk [flagByte c.itf, flagByte c.abs, flagByte c.fin] W)) := Lib.hid (fun X W h0 h1 h2 =>
    (cflags_any [c.itf, c.abs, c.fin] X 0 3 W (World.block_lt_of_cell? W _ h0) (fun j hj => by
      match j, hj with
      | 0, _ => simpa using h0
      | 1, _ => simpa using h1
      | 2, _ => simpa using h2
      | j + 3, hj => exact absurd hj (by simp)) (by simp) (by simp)).mono fun _ _ h => mk_of_bytes h)
  have HCO : Hid (∀ V v0 v1 v2 v3 v4, Src 1 ByteR Anyw V v0 (textBytes c.name ++ textBytes c.sup) → Src 1 ByteR Anyw V v1 (listB textBytes c.like) → Src 1 ByteR Anyw V v2 ([flagByte c.itf, flagByte c.abs, flagByte c.fin]) → Src 1 ByteR Anyw V v3 (listB Fld.bytes c.flds) → Src 1 ByteR Anyw V v4 (listB Mth.bytes c.mths) → Calls Tryz.prog 140 #[.slice (some ⟨V.heap.size, 0, none⟩) 5 5] (V.alloc (.cells #[v0, v1, v2, v3, v4] 71)) (MkB (c.bytes) V)) := Lib.hid (fun V v0 v1 v2 v3 v4 s0 s1 s2 s3 s4 =>
    cat5_any s0 s1 s2 s3 s4 (by simp; omega))
  have hb0 : Below w.heap.size w (w.alloc (.cells #[.string (S c.name), .string (S c.sup), .slice lo c.like.length lc, .bool c.itf, .bool c.abs, .bool c.fin, .slice fo c.flds.length fc, .slice mo c.mths.length mc] 26)) := (Below.refl _ w).alloc (Nat.le_refl _) _
  have hbx := Box.new w #[.string (S c.name), .string (S c.sup), .slice lo c.like.length lc, .bool c.itf, .bool c.abs, .bool c.fin, .slice fo c.flds.length fc, .slice mo c.mths.length mc] 26
  obtain ⟨W0, hW0⟩ : ∃ W0, W0 = (w.alloc (.cells #[.string (S c.name), .string (S c.sup), .slice lo c.like.length lc, .bool c.itf, .bool c.abs, .bool c.fin, .slice fo c.flds.length fc, .slice mo c.mths.length mc] 26)) := ⟨_, rfl⟩
  rw [← hW0] at hb0 hbx
  have HW0 := Lib.hid hW0
  clear hW0
  have HB0 := Lib.hid hb0
  have HS : Hid (∀ W, Below W0.heap.size W0 W → W.cell? ⟨w.heap.size, 0, none⟩ = some (.string (S c.name)) ∧ W.cell? ⟨w.heap.size, 1, none⟩ = some (.string (S c.sup)) ∧ W.cell? ⟨w.heap.size, 2, none⟩ = some (.slice lo c.like.length lc) ∧ W.cell? ⟨w.heap.size, 3, none⟩ = some (.bool c.itf) ∧ W.cell? ⟨w.heap.size, 4, none⟩ = some (.bool c.abs) ∧ W.cell? ⟨w.heap.size, 5, none⟩ = some (.bool c.fin) ∧ W.cell? ⟨w.heap.size, 6, none⟩ = some (.slice fo c.flds.length fc) ∧ W.cell? ⟨w.heap.size, 7, none⟩ = some (.slice mo c.mths.length mc)) := Lib.hid (fun W hW => by
    have hx := hbx.below hW
    exact ⟨hx.cell 0 rfl, hx.cell 1 rfl, hx.cell 2 rfl, hx.cell 3 rfl, hx.cell 4 rfl, hx.cell 5 rfl, hx.cell 6 rfl, hx.cell 7 rfl⟩)
  have HP1 : Hid (∀ W, Below W0.heap.size W0 W → Calls Tryz.prog 142 #[.slice lo c.like.length lc, .func (.func 143) #[] #[]] W (Mk (listB textBytes c.like) W)) := Lib.hid (fun W hW =>
    (putl_str (A := A) 143 textBytes c.like _ _ (enters_fn Tryz.func143 (by kernel_rfl) rfl) (StrR.st.below (StrR.st.below hl hb0) hW) (fun k x u w' hx _ hu => by
      obtain rfl := hu
      exact pc1_any x w' (by have := classB_len (hg.above.2 x (List.mem_of_getElem? hx)); omega)) (by have := hg.nums.1; omega) (by have := flat_le textBytes 42 c.like (fun x hx => text_le x 32 (classB_len (hg.above.2 x hx)) (by decide)); have := hg.nums.1; omega)).mono fun _ _ h => mk_of_bytes h)
  have HP2 : Hid (∀ W, Below W0.heap.size W0 W → Calls Tryz.prog 145 #[.slice fo c.flds.length fc, .func (.func 146) #[] #[]] W (Mk (listB Fld.bytes c.flds) W)) := Lib.hid (fun W hW =>
    (putl_fld (A := A) 146 Fld.bytes c.flds _ _ (enters_fn Tryz.func146 (by kernel_rfl) rfl) (FldR.st.below (FldR.st.below hf hb0) hW) (fun k x u w' hx _ hu => by
      obtain rfl := hu
      exact putfield_any x w' (hg.flds x (List.mem_of_getElem? hx))) (by have := hg.nums.2.1; omega) (by have := flat_le Fld.bytes 100 c.flds (fun x hx => fld_le (hg.flds x hx)); have := hg.nums.2.1; omega)).mono fun _ _ h => mk_of_bytes h)
  have HP3 : Hid (∀ W, Below W0.heap.size W0 W → Calls Tryz.prog 147 #[.slice mo c.mths.length mc, .func (.func 148) #[] #[]] W (Mk (listB Mth.bytes c.mths) W)) := Lib.hid (fun W hW =>
    (putl_mth (A := A) 148 Mth.bytes c.mths _ _ (enters_fn Tryz.func148 (by kernel_rfl) rfl) (MthR.st.below (MthR.st.below hm hb0) hW) (fun k x u w' hx hb' hu =>
      putmethod_any x u w' hu (hg.mths x (List.mem_of_getElem? hx)) (((hT.keep hb0).keep hW).keep hb')) (by have := hg.nums.2.2; omega) (by have := flat_le Mth.bytes 209740000 c.mths (fun x hx => (hg.mths x hx).le); have := hg.nums.2.2; omega)).mono fun _ _ h => mk_of_bytes h)
  clear hl hf hm hg hT hl1 hl2 hb1 hb2 hb3 hb4 hb5 hb0 hbx
  obtain ⟨name, sup, like, itf, ab, fin, flds, mths⟩ := c
  dsimp only at *
  generalize textBytes name ++ textBytes sup = L0 at *
  generalize listB textBytes like = L1 at *
  generalize [flagByte itf, flagByte ab, flagByte fin] = L2 at *
  generalize listB Fld.bytes flds = L3 at *
  generalize listB Mth.bytes mths = L4 at *
  generalize Cls.bytes { name := name, sup := sup, like := like, itf := itf, abs := ab, fin := fin, flds := flds, mths := mths } = LB at *
  generalize like.length = n1 at *
  generalize flds.length = n2 at *
  generalize mths.length = n3 at *
  go_enter Tryz.func94, Tryz.ntmps94
  go_upto_region 1 with fail
  rw [← HW0.out]
  clear HW0
  generalize w.heap.size = B at HS ⊢
  obtain ⟨g0, g1, g2, g3, g4, g5, g6, g7⟩ := HS.out _ (Below.refl _ W0)
  first
  | (go_region_held (fun W => W.cell? ⟨B, 0, none⟩ = some (.string (S name)) ∧ W.cell? ⟨B, 1, none⟩ = some (.string (S sup)) ∧ W.cell? ⟨B, 2, none⟩ = some (.slice lo n1 lc) ∧ W.cell? ⟨B, 3, none⟩ = some (.bool itf) ∧ W.cell? ⟨B, 4, none⟩ = some (.bool ab) ∧ W.cell? ⟨B, 5, none⟩ = some (.bool fin) ∧ W.cell? ⟨B, 6, none⟩ = some (.slice fo n2 fc) ∧ W.cell? ⟨B, 7, none⟩ = some (.slice mo n3 mc)) ((refine HS.out _ ?_; (repeat (first | (with_reducible exact Below.refl _ _) | (with_reducible (apply below_step; rotate_left; assumption)) | (with_reducible refine below_alloc ?_ _) | (with_reducible refine below_drew ?_)))))
      (first
       | (go_at_call 141; refine (HTX.out _ _ ?_ ?_).mono ?_; (focus ((repeat (first | (simp; done) | (with_reducible (apply cell_step; rotate_left; assumption)) | ((with_reducible refine cell_new ?_ ?_); (focus (simp; done)); (focus (simp; done))) | (with_reducible refine cell_drew ?_) | (with_reducible refine cell_alloc ?_ _))); done)); (focus ((repeat (first | (simp; done) | (with_reducible (apply cell_step; rotate_left; assumption)) | ((with_reducible refine cell_new ?_ ?_); (focus (simp; done)); (focus (simp; done))) | (with_reducible refine cell_drew ?_) | (with_reducible refine cell_alloc ?_ _))); done)); rintro e w' ⟨ao, m, c, rfl, s, b⟩)
       | (go_at_call 144; refine (HFL.out _ _ ?_ ?_ ?_).mono ?_; (focus ((repeat (first | (simp; done) | (with_reducible (apply cell_step; rotate_left; assumption)) | ((with_reducible refine cell_new ?_ ?_); (focus (simp; done)); (focus (simp; done))) | (with_reducible refine cell_drew ?_) | (with_reducible refine cell_alloc ?_ _))); done)); (focus ((repeat (first | (simp; done) | (with_reducible (apply cell_step; rotate_left; assumption)) | ((with_reducible refine cell_new ?_ ?_); (focus (simp; done)); (focus (simp; done))) | (with_reducible refine cell_drew ?_) | (with_reducible refine cell_alloc ?_ _))); done)); (focus ((repeat (first | (simp; done) | (with_reducible (apply cell_step; rotate_left; assumption)) | ((with_reducible refine cell_new ?_ ?_); (focus (simp; done)); (focus (simp; done))) | (with_reducible refine cell_drew ?_) | (with_reducible refine cell_alloc ?_ _))); done)); rintro e w' ⟨ao, m, c, rfl, s, b⟩)
       | (go_at_call 142; refine (HP1.out _ ?_).mono ?_; (focus ((repeat (first | (with_reducible exact Below.refl _ _) | (with_reducible (apply below_step; rotate_left; assumption)) | (with_reducible refine below_alloc ?_ _) | (with_reducible refine below_drew ?_))); done)); rintro e w' ⟨ao, m, c, rfl, s, b⟩)
       | (go_at_call 145; refine (HP2.out _ ?_).mono ?_; (focus ((repeat (first | (with_reducible exact Below.refl _ _) | (with_reducible (apply below_step; rotate_left; assumption)) | (with_reducible refine below_alloc ?_ _) | (with_reducible refine below_drew ?_))); done)); rintro e w' ⟨ao, m, c, rfl, s, b⟩)
       | (go_at_call 147; refine (HP3.out _ ?_).mono ?_; (focus ((repeat (first | (with_reducible exact Below.refl _ _) | (with_reducible (apply below_step; rotate_left; assumption)) | (with_reducible refine below_alloc ?_ _) | (with_reducible refine below_drew ?_))); done)); rintro e w' ⟨ao, m, c, rfl, s, b⟩)
       | (go_at_call 140; refine (HCO.out _ _ _ _ _ _ ?_ ?_ ?_ ?_ ?_).mono ?_; (focus ((repeat (first | (with_reducible assumption) | (with_reducible (apply src_step; rotate_left; assumption)) | (with_reducible refine src_alloc ?_ _) | (with_reducible refine src_drew ?_))); done)); (focus ((repeat (first | (with_reducible assumption) | (with_reducible (apply src_step; rotate_left; assumption)) | (with_reducible refine src_alloc ?_ _) | (with_reducible refine src_drew ?_))); done)); (focus ((repeat (first | (with_reducible assumption) | (with_reducible (apply src_step; rotate_left; assumption)) | (with_reducible refine src_alloc ?_ _) | (with_reducible refine src_drew ?_))); done)); (focus ((repeat (first | (with_reducible assumption) | (with_reducible (apply src_step; rotate_left; assumption)) | (with_reducible refine src_alloc ?_ _) | (with_reducible refine src_drew ?_))); done)); (focus ((repeat (first | (with_reducible assumption) | (with_reducible (apply src_step; rotate_left; assumption)) | (with_reducible refine src_alloc ?_ _) | (with_reducible refine src_drew ?_))); done)); rintro e w' ⟨ao, m, c, rfl, s⟩; have b := s.bel)))
  | fail
  all_goals
    go_wp2
    go_ret
    exact ⟨_, rfl, s.le (by (repeat (first | (with_reducible exact HB0.out) | (with_reducible (apply below_step; rotate_left; assumption)) | (with_reducible refine below_alloc ?_ _) | (with_reducible refine below_drew ?_))))⟩
/-- What is said of Put: the bytes, or the error. -/
def PutG (E : Nat) (l : List UInt8) (w : World) (e : Ending) (w' : World) : Prop := (E = 0 → ∃ v, e = .returned (.tuple #[v, .int .i64 0]) ∧ BS w w' v l) ∧ (E ≠ 0 → e = .returned (.tuple #[.slice none 0 0, .int .i64 (E : Nat)]) ∧ Below w.heap.size w w')
set_option maxHeartbeats 4000000 in
set_option maxRecDepth 100000 in
theorem cput_any {A : Nat → Prop} (c : Cls) (v : Value) (w : World) (hv : ClsR A w c v) (hT : CT w) (hfit : c.Fit) (hh : c.held) :
    Calls Tryz.prog 44 #[v] w (PutG c.e c.bytes w) := by
  have hv0 := hv
  obtain ⟨lv, fv, mv, rfl, hl, hf, hm⟩ := hv
  obtain ⟨lo, lc, rfl⟩ := hl.shape
  obtain ⟨fo, fc, rfl⟩ := hf.shape
  obtain ⟨mo, mc, rfl⟩ := hm.shape
  have hb0 : Below w.heap.size w (w.alloc (.cells #[.string (S c.name), .string (S c.sup), .slice lo c.like.length lc, .bool c.itf, .bool c.abs, .bool c.fin, .slice fo c.flds.length fc, .slice mo c.mths.length mc] 26)) := (Below.refl _ w).alloc (Nat.le_refl _) _
  have HB0 := Lib.hid hb0
  have HBX := Lib.hid (Box.new w #[.string (S c.name), .string (S c.sup), .slice lo c.like.length lc, .bool c.itf, .bool c.abs, .bool c.fin, .slice fo c.flds.length fc, .slice mo c.mths.length mc] 26)
  have HCK := Lib.hid (ccheck_any (A := A) c _ (w.alloc (.cells #[.string (S c.name), .string (S c.sup), .slice lo c.like.length lc, .bool c.itf, .bool c.abs, .bool c.fin, .slice fo c.flds.length fc, .slice mo c.mths.length mc] 26)) (ClsR.st.keep hv0 (Only.ofBelow (S := fun _ => False) hb0) (fun _ _ => id)) (hT.keep hb0) hfit)
  have HPC : Hid (c.e = 0 → ∀ W, Below (w.alloc (.cells #[.string (S c.name), .string (S c.sup), .slice lo c.like.length lc, .bool c.itf, .bool c.abs, .bool c.fin, .slice fo c.flds.length fc, .slice mo c.mths.length mc] 26)).heap.size (w.alloc (.cells #[.string (S c.name), .string (S c.sup), .slice lo c.like.length lc, .bool c.itf, .bool c.abs, .bool c.fin, .slice fo c.flds.length fc, .slice mo c.mths.length mc] 26)) W → Calls Tryz.prog 94 #[.agg #[.string (S c.name), .string (S c.sup), .slice lo c.like.length lc, .bool c.itf, .bool c.abs, .bool c.fin, .slice fo c.flds.length fc, .slice mo c.mths.length mc]] W (Bytes' W c.bytes)) := Lib.hid (fun he W hW =>
    putclass_any (A := A) c _ W (ClsR.st.keep (ClsR.st.keep hv0 (Only.ofBelow (S := fun _ => False) hb0) (fun _ _ => id)) (Only.ofBelow (S := fun _ => False) hW) (fun _ _ => id)) ⟨he, hh⟩ ((hT.keep hb0).keep hW))
  clear hl hf hm hv0 hT hfit hb0 hh
  generalize c.e = E at *
  generalize c.bytes = LB at *
  go_enter Tryz.func44, Tryz.ntmps44
  go_wp2_with fail
  refine HCK.out.mono ?_
  rintro e w1 ⟨rfl, hb1⟩
  have HB1 := Lib.hid hb1
  have HC1 := Lib.hid (HB0.out.trans (hb1.mono HB0.out.size))
  clear hb1
  by_cases hE : E = 0
  · subst hE
    have q0 := (HBX.out.below HB1.out).cell 0 rfl
    have q1 := (HBX.out.below HB1.out).cell 1 rfl
    have q2 := (HBX.out.below HB1.out).cell 2 rfl
    have q3 := (HBX.out.below HB1.out).cell 3 rfl
    have q4 := (HBX.out.below HB1.out).cell 4 rfl
    have q5 := (HBX.out.below HB1.out).cell 5 rfl
    have q6 := (HBX.out.below HB1.out).cell 6 rfl
    have q7 := (HBX.out.below HB1.out).cell 7 rfl
    go_wp2_with fail
    refine (HPC.out (by first | rfl | trivial) _ HB1.out).mono ?_
    rintro e w2 ⟨v2, rfl, s2⟩
    obtain ⟨ao2, m2, c2, rfl⟩ := row_shape s2.row
    have HS2 := Lib.hid (s2.le HC1.out)
    clear s2 q0 q1 q2 q3 q4 q5 q6 q7
    go_wp2
    go_ret2
    exact ⟨fun _ => ⟨_, rfl, HS2.out⟩, fun h => absurd rfl h⟩
  · have hzb : ((E : Int) != 0) = true := by rw [bne_iff_ne]; omega
    have HE := Lib.hid hE
    clear hE
    go_wp2
    go_ret2
    exact ⟨fun h => absurd h HE.out, fun _ => ⟨rfl, HC1.out⟩⟩
end Go.Proofs.YtpincofjopmaaaaGreatDoor
