/-
  The contract of package class's Get: the class whose bytes these are, or the error that there is none.
  Conditions: the tables hold what they hold at the start; the bytes lie in memory that was there before, at most 2^40 of them.
  Contracts of the library, laid at this translation (out of lay-plain.mjs).
  Conditions: none of its own; each field is a closed fact of the translation.
-/
import Derived.Test.YtpincofjopmaaaaGreatDoorM24
import Derived.Test.YtpincofjopmaaaaGreatDoorM28
import Derived.Shelf.Strings.OnBuilder
import Derived.WalkKit
import Derived.Test.YtpincofjopmaaaaGreatDoorProg
namespace Go.Proofs.YtpincofjopmaaaaGreatDoor
open Go.RowKit
theorem cls_set {L M j : Nat} {w : World} {m : Cls} {u x : Value} (h : ClsR (fun k => L ≤ k) w m u) (hM : M < L) : ClsR (fun k => L ≤ k) (w.setCell ⟨M, j, none⟩ x) m u :=
  ClsR.st.keep h ((Only.refl (fun k => k = M) w).setCell (p := ⟨M, j, none⟩) rfl x) (fun k hk e => by have : L ≤ k := hk; omega)
theorem cls_below {A : Nat → Prop} {w w' : World} {c : Cls} {v : Value} (h : ClsR A w c v) (hb : Below w.heap.size w w') : ClsR A w' c v :=
  ClsR.st.keep h (Only.ofBelow (S := fun _ => False) hb) (fun _ _ => id)
/-- What is said of Get. -/
def CGetG (l : List UInt8) (w : World) (e : Ending) (w' : World) : Prop :=
  Below w.heap.size w w' ∧ ((∃ (x : Cls) (u : Value), e = .returned (.tuple #[u, .int .i64 0]) ∧ ClsR (fun k => w.heap.size ≤ k) w' x u ∧ x.Good ∧ x.Fit ∧ x.bytes = l ∧ (∀ y : Cls, y.Good → y.bytes = l → x = y)) ∨
    (e = .returned (.tuple #[.agg #[.string ⟨#[]⟩, .string ⟨#[]⟩, .slice none 0 0, .bool false, .bool false, .bool false, .slice none 0 0, .slice none 0 0], .int .i64 50]) ∧ ∀ y : Cls, y.Good → y.bytes ≠ l))
set_option maxHeartbeats 4000000 in
set_option maxRecDepth 100000 in
theorem cget_any (sv : Value) (l : List UInt8) (w : World) (hs : SrcIs w sv l) (hT : CT w) (hlim : l.length ≤ 1099511627776) :
    Calls Tryz.prog 45 #[sv] w (CGetG l w) := by
  have hb0 : Below w.heap.size w (w.alloc (.cells #[.string ⟨#[]⟩, .string ⟨#[]⟩, .slice none 0 0, .bool false, .bool false, .bool false, .slice none 0 0, .slice none 0 0] 26)) := (Below.refl _ w).alloc (Nat.le_refl _) _
  have HB0 := Lib.hid hb0
  have HT := Lib.hid (hT.keep hb0)
  have HS := Lib.hid (hs.below hb0)
  have HL := Lib.hid hlim
  have XR0 := Lib.hid (Box.new w #[.string ⟨#[]⟩, .string ⟨#[]⟩, .slice none 0 0, .bool false, .bool false, .bool false, .slice none 0 0, .slice none 0 0] 26)
  clear hT hs hlim hb0
  go_enter Tryz.func45, Tryz.ntmps45
  go_wp2_with fail
  generalize w.alloc (.cells #[.string ⟨#[]⟩, .string ⟨#[]⟩, .slice none 0 0, .bool false, .bool false, .bool false, .slice none 0 0, .slice none 0 0] 26) = W0 at HB0 HT HS XR0 ⊢
  obtain ⟨R, hR⟩ : ∃ R, R = w.heap.size := ⟨_, rfl⟩
  rw [← hR] at XR0 ⊢
  have HRL : Hid (w.heap.size ≤ R) := Lib.hid (by omega)
  clear hR
  refine (rs_read (Below.refl W0.heap.size W0) sv l HS.out (by have := HL.out; omega)).mono ?_
  rintro e w1 ⟨b, v, rfl, r1, hb1⟩
  have R1 := Lib.hid r1
  clear r1 hb1
  go_wp2_with fail
  refine (takeclass_any R1.out HT.out).mono ?_
  rintro e w2 ⟨x, u, i2, err2, rfl, t2, hx, _, hfit, g2⟩
  have HX := Lib.hid hx
  obtain ⟨_, _, _, rfl, ⟨lo, lc, rfl⟩, ⟨fo, fc, rfl⟩, ⟨mo, mc, rfl⟩⟩ := cls_shape hx
  have HRW : Hid (R < w1.heap.size ∧ w.heap.size ≤ w1.heap.size) := Lib.hid ⟨Nat.lt_of_lt_of_le XR0.out.lt R1.out.bel.size, Nat.le_trans HB0.out.size R1.out.bel.size⟩
  have HG : Hid (∀ y : Cls, y.Good → y.bytes = l → x = y) := Lib.hid (fun y hy hp => (g2 y [] rfl hy (by rw [hp]; simp)).1)
  have HB2 := Lib.hid t2.rs.bel
  have HF := Lib.hid hfit
  clear hx t2 g2 hfit R1
  have hb3 : Below w2.heap.size w2 (w2.alloc (.cells #[.string (S x.name), .string (S x.sup), .slice lo x.like.length lc, .bool x.itf, .bool x.abs, .bool x.fin, .slice fo x.flds.length fc, .slice mo x.mths.length mc] 26)) := (Below.refl _ w2).alloc (Nat.le_refl _) _
  have XM3 := Lib.hid (Box.new w2 #[.string (S x.name), .string (S x.sup), .slice lo x.like.length lc, .bool x.itf, .bool x.abs, .bool x.fin, .slice fo x.flds.length fc, .slice mo x.mths.length mc] 26)
  have HX3 := Lib.hid (cls_below HX.out hb3)
  have HB3 := Lib.hid (HB2.out.trans (hb3.mono HB2.out.size))
  clear hb3 HX HB2
  go_wp2_with fail
  generalize w2.alloc (.cells #[.string (S x.name), .string (S x.sup), .slice lo x.like.length lc, .bool x.itf, .bool x.abs, .bool x.fin, .slice fo x.flds.length fc, .slice mo x.mths.length mc] 26) = W3 at XM3 HX3 HB3 ⊢
  generalize w2.heap.size = M at XM3 ⊢
  generalize w1.heap.size = L1 at HX3 HRW
  refine (cput_any x _ W3 HX3.out (HT.out.keep HB3.out) HF.out.1 HF.out.2).mono ?_
  rintro e w4 ⟨hy, hn⟩
  by_cases hz : x.e = 0
  · obtain ⟨v4, rfl, s4⟩ := hy hz
    obtain ⟨ao4, m4, c4, rfl⟩ := row_shape s4.row
    have c1 := conv_owned s4.row
    have hb4 : Below W0.heap.size W0 w4 := HB3.out.trans (s4.bel.mono HB3.out.size)
    have c2 := conv_src (HS.out.below hb4)
    have XM4 := Lib.hid (XM3.out.below s4.bel)
    have HX4 := Lib.hid (cls_below HX3.out s4.bel)
    have XR4 := Lib.hid (XR0.out.below hb4)
    have HB4 := Lib.hid (HB0.out.trans (hb4.mono HB0.out.size))
    have HZ := Lib.hid hz
    clear hy hn s4 hb4 hz XM3 HX3 HB3
    have e1 := S_toList x.bytes
    have e2 := S_toList l
    generalize hby : x.bytes = xb at c1 e1 ⊢
    have HBY := Lib.hid hby
    clear hby
    have r0 := XR4.out.cell 0 rfl
    have r1 := XR4.out.cell 1 rfl
    have r2 := XR4.out.cell 2 rfl
    have r3 := XR4.out.cell 3 rfl
    have r4 := XR4.out.cell 4 rfl
    have r5 := XR4.out.cell 5 rfl
    have r6 := XR4.out.cell 6 rfl
    have r7 := XR4.out.cell 7 rfl
    have fr0 := XR4.out.free 0
    have fr1 := XR4.out.free 1
    have fr2 := XR4.out.free 2
    have fr3 := XR4.out.free 3
    have fr4 := XR4.out.free 4
    have fr5 := XR4.out.free 5
    have fr6 := XR4.out.free 6
    have fr7 := XR4.out.free 7
    have hltR := XR4.out.lt
    by_cases heq : xb = l
    · have hb : (xb == l) = true := beq_iff_eq.2 heq
      have HEQ := Lib.hid heq
      clear heq
      have m0 := XM4.out.cell 0 rfl
      have m1 := XM4.out.cell 1 rfl
      have m2 := XM4.out.cell 2 rfl
      have m3 := XM4.out.cell 3 rfl
      have m4 := XM4.out.cell 4 rfl
      have m5 := XM4.out.cell 5 rfl
      have m6 := XM4.out.cell 6 rfl
      have m7 := XM4.out.cell 7 rfl
      have hltM := XM4.out.lt
      go_wp2
      have tE := ((((((((HB4.out).setCell (p := ⟨R, 0, none⟩) HRL.out (.string (S x.name))).setCell (p := ⟨R, 1, none⟩) HRL.out (.string (S x.sup))).setCell (p := ⟨R, 2, none⟩) HRL.out (.slice lo x.like.length lc)).setCell (p := ⟨R, 3, none⟩) HRL.out (.bool x.itf)).setCell (p := ⟨R, 4, none⟩) HRL.out (.bool x.abs)).setCell (p := ⟨R, 5, none⟩) HRL.out (.bool x.fin)).setCell (p := ⟨R, 6, none⟩) HRL.out (.slice fo x.flds.length fc)).setCell (p := ⟨R, 7, none⟩) HRL.out (.slice mo x.mths.length mc)
      have xb0 := (show Box _ R #[.string (S x.name), .string ⟨#[]⟩, .slice none 0 0, .bool false, .bool false, .bool false, .slice none 0 0, .slice none 0 0] 26 from XR4.out.set 0 (.string (S x.name)))
      have xb1 := (show Box _ R #[.string (S x.name), .string (S x.sup), .slice none 0 0, .bool false, .bool false, .bool false, .slice none 0 0, .slice none 0 0] 26 from xb0.set 1 (.string (S x.sup)))
      have xb2 := (show Box _ R #[.string (S x.name), .string (S x.sup), .slice lo x.like.length lc, .bool false, .bool false, .bool false, .slice none 0 0, .slice none 0 0] 26 from xb1.set 2 (.slice lo x.like.length lc))
      have xb3 := (show Box _ R #[.string (S x.name), .string (S x.sup), .slice lo x.like.length lc, .bool x.itf, .bool false, .bool false, .slice none 0 0, .slice none 0 0] 26 from xb2.set 3 (.bool x.itf))
      have xb4 := (show Box _ R #[.string (S x.name), .string (S x.sup), .slice lo x.like.length lc, .bool x.itf, .bool x.abs, .bool false, .slice none 0 0, .slice none 0 0] 26 from xb3.set 4 (.bool x.abs))
      have xb5 := (show Box _ R #[.string (S x.name), .string (S x.sup), .slice lo x.like.length lc, .bool x.itf, .bool x.abs, .bool x.fin, .slice none 0 0, .slice none 0 0] 26 from xb4.set 5 (.bool x.fin))
      have xb6 := (show Box _ R #[.string (S x.name), .string (S x.sup), .slice lo x.like.length lc, .bool x.itf, .bool x.abs, .bool x.fin, .slice fo x.flds.length fc, .slice none 0 0] 26 from xb5.set 6 (.slice fo x.flds.length fc))
      have xb7 := (show Box _ R #[.string (S x.name), .string (S x.sup), .slice lo x.like.length lc, .bool x.itf, .bool x.abs, .bool x.fin, .slice fo x.flds.length fc, .slice mo x.mths.length mc] 26 from xb6.set 7 (.slice mo x.mths.length mc))
      have lE := load_cls xb7
      have xE := cls_set (j := 7) (x := .slice mo x.mths.length mc) (cls_set (j := 6) (x := .slice fo x.flds.length fc) (cls_set (j := 5) (x := .bool x.fin) (cls_set (j := 4) (x := .bool x.abs) (cls_set (j := 3) (x := .bool x.itf) (cls_set (j := 2) (x := .slice lo x.like.length lc) (cls_set (j := 1) (x := .string (S x.sup)) (cls_set (j := 0) (x := .string (S x.name)) (HX4.out) HRW.out.1) HRW.out.1) HRW.out.1) HRW.out.1) HRW.out.1) HRW.out.1) HRW.out.1) HRW.out.1
      refine bodyPost_ret (v := .tuple #[.agg #[.string (S x.name), .string (S x.sup), .slice lo x.like.length lc, .bool x.itf, .bool x.abs, .bool x.fin, .slice fo x.flds.length fc, .slice mo x.mths.length mc], .int .i64 0]) ?_ rfl ?_
      · simp [results, Tryz.results45, asAddr, lE]
      · exact ⟨tE, .inl ⟨x, _, rfl, ClsR.st.mono xE (fun k _ hk => Nat.le_trans HRW.out.2 hk), ⟨HZ.out, HF.out.2⟩, HF.out.1, HBY.out.trans HEQ.out, HG.out⟩⟩
    · have hb : (xb == l) = false := beq_eq_false_iff_ne.2 heq
      have HEQ := Lib.hid heq
      clear heq
      go_wp2
      have tE := ((((((((HB4.out).setCell (p := ⟨R, 0, none⟩) HRL.out (.string ⟨#[]⟩)).setCell (p := ⟨R, 1, none⟩) HRL.out (.string ⟨#[]⟩)).setCell (p := ⟨R, 2, none⟩) HRL.out (.slice none 0 0)).setCell (p := ⟨R, 3, none⟩) HRL.out (.bool false)).setCell (p := ⟨R, 4, none⟩) HRL.out (.bool false)).setCell (p := ⟨R, 5, none⟩) HRL.out (.bool false)).setCell (p := ⟨R, 6, none⟩) HRL.out (.slice none 0 0)).setCell (p := ⟨R, 7, none⟩) HRL.out (.slice none 0 0)
      have xb0 := (show Box _ R #[.string ⟨#[]⟩, .string ⟨#[]⟩, .slice none 0 0, .bool false, .bool false, .bool false, .slice none 0 0, .slice none 0 0] 26 from XR4.out.set 0 (.string ⟨#[]⟩))
      have xb1 := (show Box _ R #[.string ⟨#[]⟩, .string ⟨#[]⟩, .slice none 0 0, .bool false, .bool false, .bool false, .slice none 0 0, .slice none 0 0] 26 from xb0.set 1 (.string ⟨#[]⟩))
      have xb2 := (show Box _ R #[.string ⟨#[]⟩, .string ⟨#[]⟩, .slice none 0 0, .bool false, .bool false, .bool false, .slice none 0 0, .slice none 0 0] 26 from xb1.set 2 (.slice none 0 0))
      have xb3 := (show Box _ R #[.string ⟨#[]⟩, .string ⟨#[]⟩, .slice none 0 0, .bool false, .bool false, .bool false, .slice none 0 0, .slice none 0 0] 26 from xb2.set 3 (.bool false))
      have xb4 := (show Box _ R #[.string ⟨#[]⟩, .string ⟨#[]⟩, .slice none 0 0, .bool false, .bool false, .bool false, .slice none 0 0, .slice none 0 0] 26 from xb3.set 4 (.bool false))
      have xb5 := (show Box _ R #[.string ⟨#[]⟩, .string ⟨#[]⟩, .slice none 0 0, .bool false, .bool false, .bool false, .slice none 0 0, .slice none 0 0] 26 from xb4.set 5 (.bool false))
      have xb6 := (show Box _ R #[.string ⟨#[]⟩, .string ⟨#[]⟩, .slice none 0 0, .bool false, .bool false, .bool false, .slice none 0 0, .slice none 0 0] 26 from xb5.set 6 (.slice none 0 0))
      have xb7 := (show Box _ R #[.string ⟨#[]⟩, .string ⟨#[]⟩, .slice none 0 0, .bool false, .bool false, .bool false, .slice none 0 0, .slice none 0 0] 26 from xb6.set 7 (.slice none 0 0))
      have lE := load_cls xb7
      refine bodyPost_ret (v := .tuple #[.agg #[.string ⟨#[]⟩, .string ⟨#[]⟩, .slice none 0 0, .bool false, .bool false, .bool false, .slice none 0 0, .slice none 0 0], .int .i64 50]) ?_ rfl ?_
      · simp [results, Tryz.results45, asAddr, lE]
      · exact ⟨tE, .inr ⟨rfl, fun y h1 h2 => HEQ.out (by rw [← HBY.out, HG.out y h1 h2]; exact h2)⟩⟩
  · obtain ⟨rfl, hb3⟩ := hn hz
    have hb4 : Below W0.heap.size W0 w4 := HB3.out.trans (hb3.mono HB3.out.size)
    have XR4 := Lib.hid (XR0.out.below hb4)
    have HB4 := Lib.hid (HB0.out.trans (hb4.mono HB0.out.size))
    have HZ := Lib.hid hz
    have hzb : (((x.e : Nat) : Int) != 0) = true := by rw [bne_iff_ne]; omega
    clear hy hn hb3 hb4 hz XM3 HX3 HB3
    generalize hE : x.e = E at hzb HZ ⊢
    have HE := Lib.hid hE
    clear hE
    have r0 := XR4.out.cell 0 rfl
    have r1 := XR4.out.cell 1 rfl
    have r2 := XR4.out.cell 2 rfl
    have r3 := XR4.out.cell 3 rfl
    have r4 := XR4.out.cell 4 rfl
    have r5 := XR4.out.cell 5 rfl
    have r6 := XR4.out.cell 6 rfl
    have r7 := XR4.out.cell 7 rfl
    have fr0 := XR4.out.free 0
    have fr1 := XR4.out.free 1
    have fr2 := XR4.out.free 2
    have fr3 := XR4.out.free 3
    have fr4 := XR4.out.free 4
    have fr5 := XR4.out.free 5
    have fr6 := XR4.out.free 6
    have fr7 := XR4.out.free 7
    have hltR := XR4.out.lt
    go_wp2
    have tE := ((((((((HB4.out).setCell (p := ⟨R, 0, none⟩) HRL.out (.string ⟨#[]⟩)).setCell (p := ⟨R, 1, none⟩) HRL.out (.string ⟨#[]⟩)).setCell (p := ⟨R, 2, none⟩) HRL.out (.slice none 0 0)).setCell (p := ⟨R, 3, none⟩) HRL.out (.bool false)).setCell (p := ⟨R, 4, none⟩) HRL.out (.bool false)).setCell (p := ⟨R, 5, none⟩) HRL.out (.bool false)).setCell (p := ⟨R, 6, none⟩) HRL.out (.slice none 0 0)).setCell (p := ⟨R, 7, none⟩) HRL.out (.slice none 0 0)
    have xb0 := (show Box _ R #[.string ⟨#[]⟩, .string ⟨#[]⟩, .slice none 0 0, .bool false, .bool false, .bool false, .slice none 0 0, .slice none 0 0] 26 from XR4.out.set 0 (.string ⟨#[]⟩))
    have xb1 := (show Box _ R #[.string ⟨#[]⟩, .string ⟨#[]⟩, .slice none 0 0, .bool false, .bool false, .bool false, .slice none 0 0, .slice none 0 0] 26 from xb0.set 1 (.string ⟨#[]⟩))
    have xb2 := (show Box _ R #[.string ⟨#[]⟩, .string ⟨#[]⟩, .slice none 0 0, .bool false, .bool false, .bool false, .slice none 0 0, .slice none 0 0] 26 from xb1.set 2 (.slice none 0 0))
    have xb3 := (show Box _ R #[.string ⟨#[]⟩, .string ⟨#[]⟩, .slice none 0 0, .bool false, .bool false, .bool false, .slice none 0 0, .slice none 0 0] 26 from xb2.set 3 (.bool false))
    have xb4 := (show Box _ R #[.string ⟨#[]⟩, .string ⟨#[]⟩, .slice none 0 0, .bool false, .bool false, .bool false, .slice none 0 0, .slice none 0 0] 26 from xb3.set 4 (.bool false))
    have xb5 := (show Box _ R #[.string ⟨#[]⟩, .string ⟨#[]⟩, .slice none 0 0, .bool false, .bool false, .bool false, .slice none 0 0, .slice none 0 0] 26 from xb4.set 5 (.bool false))
    have xb6 := (show Box _ R #[.string ⟨#[]⟩, .string ⟨#[]⟩, .slice none 0 0, .bool false, .bool false, .bool false, .slice none 0 0, .slice none 0 0] 26 from xb5.set 6 (.slice none 0 0))
    have xb7 := (show Box _ R #[.string ⟨#[]⟩, .string ⟨#[]⟩, .slice none 0 0, .bool false, .bool false, .bool false, .slice none 0 0, .slice none 0 0] 26 from xb6.set 7 (.slice none 0 0))
    have lE := load_cls xb7
    refine bodyPost_ret (v := .tuple #[.agg #[.string ⟨#[]⟩, .string ⟨#[]⟩, .slice none 0 0, .bool false, .bool false, .bool false, .slice none 0 0, .slice none 0 0], .int .i64 50]) ?_ rfl ?_
    · simp [results, Tryz.results45, asAddr, lE]
    · exact ⟨tE, .inr ⟨rfl, fun y h1 h2 => HZ.out (by rw [← HE.out, HG.out y h1 h2]; exact h1.e)⟩⟩
end Go.Proofs.YtpincofjopmaaaaGreatDoor
namespace Go.Proofs.YtpincofjopmaaaaGreatDoor
open Go.Shelf Go.RowKit Go.Lib
def lays156_ren : Go.Shelf.Ren := ⟨fun | 156 => 47 | 165 => 104 | 166 => 105 | 169 => 74 | 240 => 177 | 241 => 178 | 276 => 239 | 277 => 240 | n => n, fun | 31 => 22 | 9 => 9 | 3 => 3 | 4 => 4 | 0 => 0 | 20 => 20 | 72 => 108 | 76 => 135 | 70 => 106 | 37 => 71 | 75 => 134 | 127 => 152 | 164 => 230 | 5 => 5 | 80 => 110 | n => n, fun | n => n⟩
theorem lays156 : Go.Proofs.Lays.n156 Tryz.prog lays156_ren := {
  mixed := by kernel_rfl
  f156 := Tryz.func47.trans (congrArg some (by kernel_rfl))
  f165 := Tryz.func104.trans (congrArg some (by kernel_rfl))
  f166 := Tryz.func105.trans (congrArg some (by kernel_rfl))
  f169 := Tryz.func74.trans (congrArg some (by kernel_rfl))
  f240 := Tryz.func177.trans (congrArg some (by kernel_rfl))
  f241 := Tryz.func178.trans (congrArg some (by kernel_rfl))
  f276 := Tryz.func239.trans (congrArg some (by kernel_rfl))
  f277 := Tryz.func240.trans (congrArg some (by kernel_rfl))
  t0 := Tryz.underlying0
  a0 := Tryz.isAgg0
  z0 := Tryz.sizeOf0
  v0 := Tryz.zeroValue0
  t3 := Tryz.underlying3
  a3 := Tryz.isAgg3
  z3 := Tryz.sizeOf3
  v3 := Tryz.zeroValue3
  t4 := Tryz.underlying4
  a4 := Tryz.isAgg4
  z4 := Tryz.sizeOf4
  v4 := Tryz.zeroValue4
  t9 := Tryz.underlying9
  a9 := Tryz.isAgg9
  z9 := Tryz.sizeOf9
  v9 := Tryz.zeroValue9
  t20 := Tryz.underlying20
  a20 := Tryz.isAgg20
  z20 := Tryz.sizeOf20
  v20 := Tryz.zeroValue20
  t31 := Tryz.underlying22
  a31 := Tryz.isAgg22
  z31 := Tryz.sizeOf22
  v31 := Tryz.zeroValue22
  t37 := Tryz.underlying71
  a37 := Tryz.isAgg71
  z37 := Tryz.sizeOf71
  v37 := Tryz.zeroValue71
  t70 := Tryz.underlying106
  a70 := Tryz.isAgg106
  z70 := Tryz.sizeOf106
  v70 := Tryz.zeroValue106
  t72 := Tryz.underlying108
  a72 := Tryz.isAgg108
  z72 := Tryz.sizeOf108
  v72 := Tryz.zeroValue108
  t75 := Tryz.underlying134
  a75 := Tryz.isAgg134
  z75 := Tryz.sizeOf134
  v75 := Tryz.zeroValue134
  t76 := Tryz.underlying135
  a76 := Tryz.isAgg135
  z76 := Tryz.sizeOf135
  v76 := Tryz.zeroValue135
  t127 := Tryz.underlying152
  a127 := Tryz.isAgg152
  z127 := Tryz.sizeOf152
  v127 := Tryz.zeroValue152
  t164 := Tryz.underlying230
  a164 := Tryz.isAgg230
  z164 := Tryz.sizeOf230
  v164 := Tryz.zeroValue230 }
theorem builder_Extra_156 : Builder.Extra Tryz.prog lays156_ren := {
  sizeBuilder := by kernel_rfl
  liesBuilder := by kernel_rfl
  t5 := Tryz.underlying5
  a5 := Tryz.isAgg5
  z5 := Tryz.sizeOf5
  v5 := Tryz.zeroValue5
  infoByte := by kernel_rfl
  cellsByte := by kernel_rfl
  sizeByte := by kernel_rfl
  neB5 := by decide }
/-- No element: the empty string; the world is as it was. (Whatever the slice's address and capacity: a nil slice too.) (LAID: no walk: one application.) -/
theorem strings_Join_none (a : Option Addr) (c : Nat) (sep : ByteArray) (w : World) :
    Calls Tryz.prog 47 #[.slice a 0 c, .string sep] w fun e w' => e = .returned (.string ⟨#[]⟩) ∧ w' = w := Any.strings_Join_none lays156 builder_Extra_156 a c sep w
/-- strings.Join: "Join concatenates the elements of its first argument to create a single string. The separator string sep is placed between elements in the resulting string.": HOWEVER MANY ELEMENTS. Below the heap's end the world is as it was. (LAID: no walk: one application.) -/
theorem strings_Join (bk o c : Nat) (xs : List ByteArray) (sep : ByteArray) (w : World) (hcells : ∀ (j : Nat) x, xs[j]? = some x → w.cell? ⟨bk, o + j, none⟩ = some (.string x)) (hbk : bk < w.heap.size) (hN : xs.length ≤ 140737488355328) (hcap : xs.length ≤ c) (hlen : (Lib.join (xs.map (·.data.toList)) sep.data.toList).length ≤ 140737488355328) :
    Calls Tryz.prog 47 #[.slice (some ⟨bk, o, none⟩) xs.length c, .string sep] w fun e w' => e = .returned (.string ⟨(Lib.join (xs.map (·.data.toList)) sep.data.toList).toArray⟩) ∧ Below w.heap.size w w' := Any.strings_Join lays156 builder_Extra_156 bk o c xs sep w hcells hbk hN hcap hlen
end Go.Proofs.YtpincofjopmaaaaGreatDoor
