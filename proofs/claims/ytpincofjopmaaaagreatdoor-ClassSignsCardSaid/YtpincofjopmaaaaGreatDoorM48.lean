/-
  The contract of the document's Check of layer 5.
  Conditions: the class's parts lie in memory that was there before; texts and lists that a machine may hold.
-/
import Derived.Test.YtpincofjopmaaaaGreatDoorM39
namespace Go.Proofs.YtpincofjopmaaaaGreatDoor
open Go.RowKit
set_option maxHeartbeats 4000000 in
set_option maxRecDepth 100000 in
theorem refcheck5_any {A : Nat → Prop} (c : Cls) (v : Value) (w : World) (hv : ClsR A w c v) (hfit : c.Fit) :
    Calls Tryz.prog 20 #[v] w fun e w' => e = .returned (.int .i64 (c.e : Nat)) ∧ Below w.heap.size w w' := by
  have hv0 := hv
  obtain ⟨lv, fv, mv, rfl, hl, hf, hm⟩ := hv
  obtain ⟨lo, lc, rfl⟩ := hl.shape
  obtain ⟨fo, fc, rfl⟩ := hf.shape
  obtain ⟨mo, mc, rfl⟩ := hm.shape
  have hb0 : Below w.heap.size w (w.alloc (.cells #[.string (S c.name), .string (S c.sup), .slice lo c.like.length lc, .bool c.itf, .bool c.abs, .bool c.fin, .slice fo c.flds.length fc, .slice mo c.mths.length mc] 26)) := (Below.refl _ w).alloc (Nat.le_refl _) _
  have HB0 := Lib.hid hb0
  have HBX := Lib.hid (Box.new w #[.string (S c.name), .string (S c.sup), .slice lo c.like.length lc, .bool c.itf, .bool c.abs, .bool c.fin, .slice fo c.flds.length fc, .slice mo c.mths.length mc] 26)
  have HMN := Lib.hid (refmany_any (A := A) c _ _ (ClsR.st.keep hv0 (Only.ofBelow (S := fun _ => False) hb0) (fun _ _ => id)) hfit)
  have HRI : Hid (∀ W, Below (w.alloc (.cells #[.string (S c.name), .string (S c.sup), .slice lo c.like.length lc, .bool c.itf, .bool c.abs, .bool c.fin, .slice fo c.flds.length fc, .slice mo c.mths.length mc] 26)).heap.size (w.alloc (.cells #[.string (S c.name), .string (S c.sup), .slice lo c.like.length lc, .bool c.itf, .bool c.abs, .bool c.fin, .slice fo c.flds.length fc, .slice mo c.mths.length mc] 26)) W → Calls Tryz.prog 57 #[.agg #[.string (S c.name), .string (S c.sup), .slice lo c.like.length lc, .bool c.itf, .bool c.abs, .bool c.fin, .slice fo c.flds.length fc, .slice mo c.mths.length mc]] W (Said c.fine W)) := Lib.hid (fun W hW =>
    refright5_any (A := A) c _ W (ClsR.st.keep (ClsR.st.keep hv0 (Only.ofBelow (S := fun _ => False) hb0) (fun _ _ => id)) (Only.ofBelow (S := fun _ => False) hW) (fun _ _ => id)) hfit)
  have hE : c.e = if c.many then 51 else if c.fine then 0 else 50 := rfl
  clear hv0 hl hf hm hfit hb0
  generalize c.many = m at HMN hE
  generalize c.fine = f at HRI hE
  rw [hE]
  clear hE
  have c0 := HBX.out.cell 0 rfl
  have c1 := HBX.out.cell 1 rfl
  have c2 := HBX.out.cell 2 rfl
  have c3 := HBX.out.cell 3 rfl
  have c4 := HBX.out.cell 4 rfl
  have c5 := HBX.out.cell 5 rfl
  have c6 := HBX.out.cell 6 rfl
  have c7 := HBX.out.cell 7 rfl
  go_enter Tryz.func20, Tryz.ntmps20
  go_wp2_with fail
  refine HMN.out.mono ?_
  rintro e w1 ⟨rfl, hb1⟩
  clear c0 c1 c2 c3 c4 c5 c6 c7
  have HB1 := Lib.hid (HB0.out.trans (hb1.mono HB0.out.size))
  cases m
  case true =>
    clear hb1
    go_wp2
    go_ret
    exact ⟨rfl, HB1.out⟩
  have hx := HBX.out.below hb1
  have c0 := hx.cell 0 rfl
  have c1 := hx.cell 1 rfl
  have c2 := hx.cell 2 rfl
  have c3 := hx.cell 3 rfl
  have c4 := hx.cell 4 rfl
  have c5 := hx.cell 5 rfl
  have c6 := hx.cell 6 rfl
  have c7 := hx.cell 7 rfl
  have HR1 := Lib.hid (HRI.out w1 hb1)
  clear hx hb1
  go_wp2_with fail
  refine HR1.out.mono ?_
  rintro e w2 ⟨rfl, hb2⟩
  have HB2 := Lib.hid (HB1.out.trans (hb2.mono HB1.out.size))
  clear hb2 c0 c1 c2 c3 c4 c5 c6 c7
  cases f
  · go_wp2
    go_ret
    exact ⟨rfl, HB2.out⟩
  · go_wp2
    go_ret
    exact ⟨rfl, HB2.out⟩
end Go.Proofs.YtpincofjopmaaaaGreatDoor
