/-
  The contracts of package class's sameMethod and Same: whether two classes are equal in all their parts.
  Conditions: the classes' parts lie in memory that was there before; lists that a machine may hold.
-/
import Derived.Test.YtpincofjopmaaaaGreatDoorM33
import Derived.Test.YtpincofjopmaaaaGreatDoorM22
namespace Go.Proofs.YtpincofjopmaaaaGreatDoor
open Go.RowKit
def Mth.eqB (a b : Mth) : Bool := (a.name == b.name) && (samB strEq a.params b.params && ((a.res == b.res) && ((a.abs == b.abs) && ((a.loc == b.loc) && (samB Ins.eqB a.code b.code && samB Cat.eqB a.cats b.cats)))))
def Cls.eqB (a b : Cls) : Bool := (a.name == b.name) && ((a.sup == b.sup) && (samB strEq a.like b.like && ((a.itf == b.itf) && ((a.abs == b.abs) && ((a.fin == b.fin) && (samB Fld.eqB a.flds b.flds && samB Mth.eqB a.mths b.mths))))))
set_option maxHeartbeats 4000000 in
set_option maxRecDepth 100000 in
theorem samem_any {A1 A2 : Nat → Prop} (a b : Mth) (u v : Value) (w : World) (hu : MthR A1 w a u) (hv : MthR A2 w b v) (ha : a.Fit) (hb : b.Fit) :
    Calls Tryz.prog 53 #[u, v] w (Said (Mth.eqB a b) w) := by
  obtain ⟨pv1, cv1, kv1, rfl, hp1, hc1, hk1⟩ := hu
  obtain ⟨po1, pc1, rfl⟩ := hp1.shape
  obtain ⟨co1, cc1, rfl⟩ := hc1.shape
  obtain ⟨ko1, kc1, rfl⟩ := hk1.shape
  obtain ⟨pv2, cv2, kv2, rfl, hp2, hc2, hk2⟩ := hv
  obtain ⟨po2, pc2, rfl⟩ := hp2.shape
  obtain ⟨co2, cc2, rfl⟩ := hc2.shape
  obtain ⟨ko2, kc2, rfl⟩ := hk2.shape
  have hbA : Below w.heap.size w (w.alloc (.cells #[.string (S a.name), .slice po1 a.params.length pc1, .string (S a.res), .bool a.abs, .int .i64 a.loc, .slice co1 a.code.length cc1, .slice ko1 a.cats.length kc1] 33)) := (Below.refl _ w).alloc (Nat.le_refl _) _
  have hb0 : Below w.heap.size w ((w.alloc (.cells #[.string (S a.name), .slice po1 a.params.length pc1, .string (S a.res), .bool a.abs, .int .i64 a.loc, .slice co1 a.code.length cc1, .slice ko1 a.cats.length kc1] 33)).alloc (.cells #[.string (S b.name), .slice po2 b.params.length pc2, .string (S b.res), .bool b.abs, .int .i64 b.loc, .slice co2 b.code.length cc2, .slice ko2 b.cats.length kc2] 33)) := below_alloc hbA _
  have HB0 := Lib.hid hb0
  have HBA := Lib.hid ((Box.new w #[.string (S a.name), .slice po1 a.params.length pc1, .string (S a.res), .bool a.abs, .int .i64 a.loc, .slice co1 a.code.length cc1, .slice ko1 a.cats.length kc1] 33).below (w' := ((w.alloc (.cells #[.string (S a.name), .slice po1 a.params.length pc1, .string (S a.res), .bool a.abs, .int .i64 a.loc, .slice co1 a.code.length cc1, .slice ko1 a.cats.length kc1] 33)).alloc (.cells #[.string (S b.name), .slice po2 b.params.length pc2, .string (S b.res), .bool b.abs, .int .i64 b.loc, .slice co2 b.code.length cc2, .slice ko2 b.cats.length kc2] 33))) ((Below.refl _ _).alloc (Nat.le_refl _) _))
  have HBB := Lib.hid (show Box ((w.alloc (.cells #[.string (S a.name), .slice po1 a.params.length pc1, .string (S a.res), .bool a.abs, .int .i64 a.loc, .slice co1 a.code.length cc1, .slice ko1 a.cats.length kc1] 33)).alloc (.cells #[.string (S b.name), .slice po2 b.params.length pc2, .string (S b.res), .bool b.abs, .int .i64 b.loc, .slice co2 b.code.length cc2, .slice ko2 b.cats.length kc2] 33)) (w.heap.size + 1) #[.string (S b.name), .slice po2 b.params.length pc2, .string (S b.res), .bool b.abs, .int .i64 b.loc, .slice co2 b.code.length cc2, .slice ko2 b.cats.length kc2] 33 from by have q := Box.new (w.alloc (.cells #[.string (S a.name), .slice po1 a.params.length pc1, .string (S a.res), .bool a.abs, .int .i64 a.loc, .slice co1 a.code.length cc1, .slice ko1 a.cats.length kc1] 33)) #[.string (S b.name), .slice po2 b.params.length pc2, .string (S b.res), .bool b.abs, .int .i64 b.loc, .slice co2 b.code.length cc2, .slice ko2 b.cats.length kc2] 33; simpa using q)
  have HL1 : Hid (∀ W, Below ((w.alloc (.cells #[.string (S a.name), .slice po1 a.params.length pc1, .string (S a.res), .bool a.abs, .int .i64 a.loc, .slice co1 a.code.length cc1, .slice ko1 a.cats.length kc1] 33)).alloc (.cells #[.string (S b.name), .slice po2 b.params.length pc2, .string (S b.res), .bool b.abs, .int .i64 b.loc, .slice co2 b.code.length cc2, .slice ko2 b.cats.length kc2] 33)).heap.size ((w.alloc (.cells #[.string (S a.name), .slice po1 a.params.length pc1, .string (S a.res), .bool a.abs, .int .i64 a.loc, .slice co1 a.code.length cc1, .slice ko1 a.cats.length kc1] 33)).alloc (.cells #[.string (S b.name), .slice po2 b.params.length pc2, .string (S b.res), .bool b.abs, .int .i64 b.loc, .slice co2 b.code.length cc2, .slice ko2 b.cats.length kc2] 33)) W → Calls Tryz.prog 48 #[.slice po1 a.params.length pc1, .slice po2 b.params.length pc2, .func (.func 49) #[] #[]] W (Said (samB strEq a.params b.params) W)) := Lib.hid (fun W hW =>
    samel_str (A1 := A1) (A2 := A2) 49 strEq a.params b.params _ _ W (enters_fn Tryz.func49 (by kernel_rfl) rfl) (StrR.st.below (StrR.st.below hp1 hb0) hW) (StrR.st.below (StrR.st.below hp2 hb0) hW) (fun k x y u1 v1 w' _ _ _ hu1 hv1 => by
      obtain rfl := hu1
      obtain rfl := hv1
      exact eq_str x y w') ha.n1 hb.n1)
  have HL5 : Hid (∀ W, Below ((w.alloc (.cells #[.string (S a.name), .slice po1 a.params.length pc1, .string (S a.res), .bool a.abs, .int .i64 a.loc, .slice co1 a.code.length cc1, .slice ko1 a.cats.length kc1] 33)).alloc (.cells #[.string (S b.name), .slice po2 b.params.length pc2, .string (S b.res), .bool b.abs, .int .i64 b.loc, .slice co2 b.code.length cc2, .slice ko2 b.cats.length kc2] 33)).heap.size ((w.alloc (.cells #[.string (S a.name), .slice po1 a.params.length pc1, .string (S a.res), .bool a.abs, .int .i64 a.loc, .slice co1 a.code.length cc1, .slice ko1 a.cats.length kc1] 33)).alloc (.cells #[.string (S b.name), .slice po2 b.params.length pc2, .string (S b.res), .bool b.abs, .int .i64 b.loc, .slice co2 b.code.length cc2, .slice ko2 b.cats.length kc2] 33)) W → Calls Tryz.prog 106 #[.slice co1 a.code.length cc1, .slice co2 b.code.length cc2, .func (.func 107) #[] #[]] W (Said (samB Ins.eqB a.code b.code) W)) := Lib.hid (fun W hW =>
    samel_ins (A1 := A1) (A2 := A2) 107 Ins.eqB a.code b.code _ _ W (enters_fn Tryz.func107 (by kernel_rfl) rfl) (InsR.st.below (InsR.st.below hc1 hb0) hW) (InsR.st.below (InsR.st.below hc2 hb0) hW) (fun k x y u1 v1 w' _ _ _ hu1 hv1 => by
      obtain rfl := hu1
      obtain rfl := hv1
      exact eq_ins x y w') ha.n2 hb.n2)
  have HL6 : Hid (∀ W, Below ((w.alloc (.cells #[.string (S a.name), .slice po1 a.params.length pc1, .string (S a.res), .bool a.abs, .int .i64 a.loc, .slice co1 a.code.length cc1, .slice ko1 a.cats.length kc1] 33)).alloc (.cells #[.string (S b.name), .slice po2 b.params.length pc2, .string (S b.res), .bool b.abs, .int .i64 b.loc, .slice co2 b.code.length cc2, .slice ko2 b.cats.length kc2] 33)).heap.size ((w.alloc (.cells #[.string (S a.name), .slice po1 a.params.length pc1, .string (S a.res), .bool a.abs, .int .i64 a.loc, .slice co1 a.code.length cc1, .slice ko1 a.cats.length kc1] 33)).alloc (.cells #[.string (S b.name), .slice po2 b.params.length pc2, .string (S b.res), .bool b.abs, .int .i64 b.loc, .slice co2 b.code.length cc2, .slice ko2 b.cats.length kc2] 33)) W → Calls Tryz.prog 108 #[.slice ko1 a.cats.length kc1, .slice ko2 b.cats.length kc2, .func (.func 109) #[] #[]] W (Said (samB Cat.eqB a.cats b.cats) W)) := Lib.hid (fun W hW =>
    samel_cat (A1 := A1) (A2 := A2) 109 Cat.eqB a.cats b.cats _ _ W (enters_fn Tryz.func109 (by kernel_rfl) rfl) (CatR.st.below (CatR.st.below hk1 hb0) hW) (CatR.st.below (CatR.st.below hk2 hb0) hW) (fun k x y u1 v1 w' _ _ _ hu1 hv1 => by
      obtain rfl := hu1
      obtain rfl := hv1
      exact eq_cat x y w') ha.n3 hb.n3)
  unfold Mth.eqB
  clear hb0 hbA ha hb hp1 hc1 hk1 hp2 hc2 hk2
  have ea0 := S_toList a.name
  have eb0 := S_toList b.name
  have ea2 := S_toList a.res
  have eb2 := S_toList b.res
  generalize h0 : (a.name == b.name) = d0 at ⊢
  have H0 := Lib.hid h0
  clear h0
  generalize samB strEq a.params b.params = d1 at HL1 ⊢
  generalize h2 : (a.res == b.res) = d2 at ⊢
  have H2 := Lib.hid h2
  clear h2
  generalize h3 : (a.abs == b.abs) = d3 at ⊢
  have H3 := Lib.hid h3
  clear h3
  generalize h4 : (a.loc == b.loc) = d4 at ⊢
  have H4 := Lib.hid h4
  clear h4
  generalize samB Ins.eqB a.code b.code = d5 at HL5 ⊢
  generalize samB Cat.eqB a.cats b.cats = d6 at HL6 ⊢
  have hba : w.heap.size < w.heap.size + 1 := by omega
  clear hba
  have h0 := H0.out
  cases d0
  case false =>
    go_enter Tryz.func53, Tryz.ntmps53
    go_wp2
    go_ret
    exact ⟨rfl, HB0.out⟩
  go_enter Tryz.func53, Tryz.ntmps53
  go_wp2_with fail
  refine (HL1.out _ (Below.refl _ _)).mono ?_
  rintro e w2 ⟨rfl, hb⟩
  have HB2 := Lib.hid hb
  have HC2 := Lib.hid (HB0.out.trans (HB2.out.mono HB0.out.size))
  clear hb
  cases d1
  case false =>
    go_wp2
    go_ret
    exact ⟨rfl, HC2.out⟩
  have p2 := (HBA.out.below HB2.out).cell 2 rfl
  have q2 := (HBB.out.below HB2.out).cell 2 rfl
  have p3 := (HBA.out.below HB2.out).cell 3 rfl
  have q3 := (HBB.out.below HB2.out).cell 3 rfl
  have p4 := (HBA.out.below HB2.out).cell 4 rfl
  have q4 := (HBB.out.below HB2.out).cell 4 rfl
  have p5 := (HBA.out.below HB2.out).cell 5 rfl
  have q5 := (HBB.out.below HB2.out).cell 5 rfl
  have h2 := H2.out
  cases d2
  case false =>
    go_wp2
    go_ret
    exact ⟨rfl, HC2.out⟩
  have h3 := H3.out
  cases d3
  case false =>
    go_wp2
    go_ret
    exact ⟨rfl, HC2.out⟩
  have h4 := H4.out
  cases d4
  case false =>
    go_wp2
    go_ret
    exact ⟨rfl, HC2.out⟩
  go_wp2_with fail
  refine (HL5.out _ HB2.out).mono ?_
  rintro e w6 ⟨rfl, hb⟩
  have HB6 := Lib.hid (below_step HB2.out hb)
  have HC6 := Lib.hid (HB0.out.trans (HB6.out.mono HB0.out.size))
  clear hb p2 q2 p3 q3 p4 q4 p5 q5
  cases d5
  case false =>
    go_wp2
    go_ret
    exact ⟨rfl, HC6.out⟩
  have p6 := (HBA.out.below HB6.out).cell 6 rfl
  have q6 := (HBB.out.below HB6.out).cell 6 rfl
  go_wp2_with fail
  refine (HL6.out _ HB6.out).mono ?_
  rintro e w7 ⟨rfl, hb⟩
  have HB7 := Lib.hid (below_step HB6.out hb)
  have HC7 := Lib.hid (HB0.out.trans (HB7.out.mono HB0.out.size))
  clear hb p6 q6
  go_wp2
  go_ret
  exact ⟨rfl, HC7.out⟩
set_option maxHeartbeats 4000000 in
set_option maxRecDepth 100000 in
theorem csame_any {A1 A2 : Nat → Prop} (a b : Cls) (u v : Value) (w : World) (hu : ClsR A1 w a u) (hv : ClsR A2 w b v) (ha : a.Fit) (hb : b.Fit) :
    Calls Tryz.prog 18 #[u, v] w (Said (Cls.eqB a b) w) := by
  obtain ⟨lv1, fv1, mv1, rfl, hp1, hc1, hk1⟩ := hu
  obtain ⟨lo1, lc1, rfl⟩ := hp1.shape
  obtain ⟨fo1, fc1, rfl⟩ := hc1.shape
  obtain ⟨mo1, mc1, rfl⟩ := hk1.shape
  obtain ⟨lv2, fv2, mv2, rfl, hp2, hc2, hk2⟩ := hv
  obtain ⟨lo2, lc2, rfl⟩ := hp2.shape
  obtain ⟨fo2, fc2, rfl⟩ := hc2.shape
  obtain ⟨mo2, mc2, rfl⟩ := hk2.shape
  have hbA : Below w.heap.size w (w.alloc (.cells #[.string (S a.name), .string (S a.sup), .slice lo1 a.like.length lc1, .bool a.itf, .bool a.abs, .bool a.fin, .slice fo1 a.flds.length fc1, .slice mo1 a.mths.length mc1] 26)) := (Below.refl _ w).alloc (Nat.le_refl _) _
  have hb0 : Below w.heap.size w ((w.alloc (.cells #[.string (S a.name), .string (S a.sup), .slice lo1 a.like.length lc1, .bool a.itf, .bool a.abs, .bool a.fin, .slice fo1 a.flds.length fc1, .slice mo1 a.mths.length mc1] 26)).alloc (.cells #[.string (S b.name), .string (S b.sup), .slice lo2 b.like.length lc2, .bool b.itf, .bool b.abs, .bool b.fin, .slice fo2 b.flds.length fc2, .slice mo2 b.mths.length mc2] 26)) := below_alloc hbA _
  have HB0 := Lib.hid hb0
  have HBA := Lib.hid ((Box.new w #[.string (S a.name), .string (S a.sup), .slice lo1 a.like.length lc1, .bool a.itf, .bool a.abs, .bool a.fin, .slice fo1 a.flds.length fc1, .slice mo1 a.mths.length mc1] 26).below (w' := ((w.alloc (.cells #[.string (S a.name), .string (S a.sup), .slice lo1 a.like.length lc1, .bool a.itf, .bool a.abs, .bool a.fin, .slice fo1 a.flds.length fc1, .slice mo1 a.mths.length mc1] 26)).alloc (.cells #[.string (S b.name), .string (S b.sup), .slice lo2 b.like.length lc2, .bool b.itf, .bool b.abs, .bool b.fin, .slice fo2 b.flds.length fc2, .slice mo2 b.mths.length mc2] 26))) ((Below.refl _ _).alloc (Nat.le_refl _) _))
  have HBB := Lib.hid (show Box ((w.alloc (.cells #[.string (S a.name), .string (S a.sup), .slice lo1 a.like.length lc1, .bool a.itf, .bool a.abs, .bool a.fin, .slice fo1 a.flds.length fc1, .slice mo1 a.mths.length mc1] 26)).alloc (.cells #[.string (S b.name), .string (S b.sup), .slice lo2 b.like.length lc2, .bool b.itf, .bool b.abs, .bool b.fin, .slice fo2 b.flds.length fc2, .slice mo2 b.mths.length mc2] 26)) (w.heap.size + 1) #[.string (S b.name), .string (S b.sup), .slice lo2 b.like.length lc2, .bool b.itf, .bool b.abs, .bool b.fin, .slice fo2 b.flds.length fc2, .slice mo2 b.mths.length mc2] 26 from by have q := Box.new (w.alloc (.cells #[.string (S a.name), .string (S a.sup), .slice lo1 a.like.length lc1, .bool a.itf, .bool a.abs, .bool a.fin, .slice fo1 a.flds.length fc1, .slice mo1 a.mths.length mc1] 26)) #[.string (S b.name), .string (S b.sup), .slice lo2 b.like.length lc2, .bool b.itf, .bool b.abs, .bool b.fin, .slice fo2 b.flds.length fc2, .slice mo2 b.mths.length mc2] 26; simpa using q)
  have HL2 : Hid (∀ W, Below ((w.alloc (.cells #[.string (S a.name), .string (S a.sup), .slice lo1 a.like.length lc1, .bool a.itf, .bool a.abs, .bool a.fin, .slice fo1 a.flds.length fc1, .slice mo1 a.mths.length mc1] 26)).alloc (.cells #[.string (S b.name), .string (S b.sup), .slice lo2 b.like.length lc2, .bool b.itf, .bool b.abs, .bool b.fin, .slice fo2 b.flds.length fc2, .slice mo2 b.mths.length mc2] 26)).heap.size ((w.alloc (.cells #[.string (S a.name), .string (S a.sup), .slice lo1 a.like.length lc1, .bool a.itf, .bool a.abs, .bool a.fin, .slice fo1 a.flds.length fc1, .slice mo1 a.mths.length mc1] 26)).alloc (.cells #[.string (S b.name), .string (S b.sup), .slice lo2 b.like.length lc2, .bool b.itf, .bool b.abs, .bool b.fin, .slice fo2 b.flds.length fc2, .slice mo2 b.mths.length mc2] 26)) W → Calls Tryz.prog 48 #[.slice lo1 a.like.length lc1, .slice lo2 b.like.length lc2, .func (.func 49) #[] #[]] W (Said (samB strEq a.like b.like) W)) := Lib.hid (fun W hW =>
    samel_str (A1 := A1) (A2 := A2) 49 strEq a.like b.like _ _ W (enters_fn Tryz.func49 (by kernel_rfl) rfl) (StrR.st.below (StrR.st.below hp1 hb0) hW) (StrR.st.below (StrR.st.below hp2 hb0) hW) (fun k x y u1 v1 w' _ _ _ hu1 hv1 => by
      obtain rfl := hu1
      obtain rfl := hv1
      exact eq_str x y w') ha.n1 hb.n1)
  have HL6 : Hid (∀ W, Below ((w.alloc (.cells #[.string (S a.name), .string (S a.sup), .slice lo1 a.like.length lc1, .bool a.itf, .bool a.abs, .bool a.fin, .slice fo1 a.flds.length fc1, .slice mo1 a.mths.length mc1] 26)).alloc (.cells #[.string (S b.name), .string (S b.sup), .slice lo2 b.like.length lc2, .bool b.itf, .bool b.abs, .bool b.fin, .slice fo2 b.flds.length fc2, .slice mo2 b.mths.length mc2] 26)).heap.size ((w.alloc (.cells #[.string (S a.name), .string (S a.sup), .slice lo1 a.like.length lc1, .bool a.itf, .bool a.abs, .bool a.fin, .slice fo1 a.flds.length fc1, .slice mo1 a.mths.length mc1] 26)).alloc (.cells #[.string (S b.name), .string (S b.sup), .slice lo2 b.like.length lc2, .bool b.itf, .bool b.abs, .bool b.fin, .slice fo2 b.flds.length fc2, .slice mo2 b.mths.length mc2] 26)) W → Calls Tryz.prog 50 #[.slice fo1 a.flds.length fc1, .slice fo2 b.flds.length fc2, .func (.func 51) #[] #[]] W (Said (samB Fld.eqB a.flds b.flds) W)) := Lib.hid (fun W hW =>
    samel_fld (A1 := A1) (A2 := A2) 51 Fld.eqB a.flds b.flds _ _ W (enters_fn Tryz.func51 (by kernel_rfl) rfl) (FldR.st.below (FldR.st.below hc1 hb0) hW) (FldR.st.below (FldR.st.below hc2 hb0) hW) (fun k x y u1 v1 w' _ _ _ hu1 hv1 => by
      obtain rfl := hu1
      obtain rfl := hv1
      exact eq_fld x y w') ha.n2 hb.n2)
  have HL7 : Hid (∀ W, Below ((w.alloc (.cells #[.string (S a.name), .string (S a.sup), .slice lo1 a.like.length lc1, .bool a.itf, .bool a.abs, .bool a.fin, .slice fo1 a.flds.length fc1, .slice mo1 a.mths.length mc1] 26)).alloc (.cells #[.string (S b.name), .string (S b.sup), .slice lo2 b.like.length lc2, .bool b.itf, .bool b.abs, .bool b.fin, .slice fo2 b.flds.length fc2, .slice mo2 b.mths.length mc2] 26)).heap.size ((w.alloc (.cells #[.string (S a.name), .string (S a.sup), .slice lo1 a.like.length lc1, .bool a.itf, .bool a.abs, .bool a.fin, .slice fo1 a.flds.length fc1, .slice mo1 a.mths.length mc1] 26)).alloc (.cells #[.string (S b.name), .string (S b.sup), .slice lo2 b.like.length lc2, .bool b.itf, .bool b.abs, .bool b.fin, .slice fo2 b.flds.length fc2, .slice mo2 b.mths.length mc2] 26)) W → Calls Tryz.prog 52 #[.slice mo1 a.mths.length mc1, .slice mo2 b.mths.length mc2, .func (.func 53) #[] #[]] W (Said (samB Mth.eqB a.mths b.mths) W)) := Lib.hid (fun W hW =>
    samel_mth (A1 := A1) (A2 := A2) 53 Mth.eqB a.mths b.mths _ _ W (enters_fn Tryz.func53 (by kernel_rfl) rfl) (MthR.st.below (MthR.st.below hk1 hb0) hW) (MthR.st.below (MthR.st.below hk2 hb0) hW) (fun k x y u1 v1 w' hx hy _ hu1 hv1 => samem_any x y u1 v1 w' hu1 hv1 (ha.mths x (List.mem_of_getElem? hx)) (hb.mths y (List.mem_of_getElem? hy))) ha.n3 hb.n3)
  unfold Cls.eqB
  clear hb0 hbA ha hb hp1 hc1 hk1 hp2 hc2 hk2
  have ea0 := S_toList a.name
  have eb0 := S_toList b.name
  have ea1 := S_toList a.sup
  have eb1 := S_toList b.sup
  generalize h0 : (a.name == b.name) = d0 at ⊢
  have H0 := Lib.hid h0
  clear h0
  generalize h1 : (a.sup == b.sup) = d1 at ⊢
  have H1 := Lib.hid h1
  clear h1
  generalize samB strEq a.like b.like = d2 at HL2 ⊢
  generalize h3 : (a.itf == b.itf) = d3 at ⊢
  have H3 := Lib.hid h3
  clear h3
  generalize h4 : (a.abs == b.abs) = d4 at ⊢
  have H4 := Lib.hid h4
  clear h4
  generalize h5 : (a.fin == b.fin) = d5 at ⊢
  have H5 := Lib.hid h5
  clear h5
  generalize samB Fld.eqB a.flds b.flds = d6 at HL6 ⊢
  generalize samB Mth.eqB a.mths b.mths = d7 at HL7 ⊢
  have hba : w.heap.size < w.heap.size + 1 := by omega
  clear hba
  have h0 := H0.out
  cases d0
  case false =>
    go_enter Tryz.func18, Tryz.ntmps18
    go_wp2
    go_ret
    exact ⟨rfl, HB0.out⟩
  have h1 := H1.out
  cases d1
  case false =>
    go_enter Tryz.func18, Tryz.ntmps18
    go_wp2
    go_ret
    exact ⟨rfl, HB0.out⟩
  go_enter Tryz.func18, Tryz.ntmps18
  go_wp2_with fail
  refine (HL2.out _ (Below.refl _ _)).mono ?_
  rintro e w3 ⟨rfl, hb⟩
  have HB3 := Lib.hid hb
  have HC3 := Lib.hid (HB0.out.trans (HB3.out.mono HB0.out.size))
  clear hb
  cases d2
  case false =>
    go_wp2
    go_ret
    exact ⟨rfl, HC3.out⟩
  have p3 := (HBA.out.below HB3.out).cell 3 rfl
  have q3 := (HBB.out.below HB3.out).cell 3 rfl
  have p4 := (HBA.out.below HB3.out).cell 4 rfl
  have q4 := (HBB.out.below HB3.out).cell 4 rfl
  have p5 := (HBA.out.below HB3.out).cell 5 rfl
  have q5 := (HBB.out.below HB3.out).cell 5 rfl
  have p6 := (HBA.out.below HB3.out).cell 6 rfl
  have q6 := (HBB.out.below HB3.out).cell 6 rfl
  have h3 := H3.out
  cases d3
  case false =>
    go_wp2
    go_ret
    exact ⟨rfl, HC3.out⟩
  have h4 := H4.out
  cases d4
  case false =>
    go_wp2
    go_ret
    exact ⟨rfl, HC3.out⟩
  have h5 := H5.out
  cases d5
  case false =>
    go_wp2
    go_ret
    exact ⟨rfl, HC3.out⟩
  go_wp2_with fail
  refine (HL6.out _ HB3.out).mono ?_
  rintro e w7 ⟨rfl, hb⟩
  have HB7 := Lib.hid (below_step HB3.out hb)
  have HC7 := Lib.hid (HB0.out.trans (HB7.out.mono HB0.out.size))
  clear hb p3 q3 p4 q4 p5 q5 p6 q6
  cases d6
  case false =>
    go_wp2
    go_ret
    exact ⟨rfl, HC7.out⟩
  have p7 := (HBA.out.below HB7.out).cell 7 rfl
  have q7 := (HBB.out.below HB7.out).cell 7 rfl
  go_wp2_with fail
  refine (HL7.out _ HB7.out).mono ?_
  rintro e w8 ⟨rfl, hb⟩
  have HB8 := Lib.hid (below_step HB7.out hb)
  have HC8 := Lib.hid (HB0.out.trans (HB8.out.mono HB0.out.size))
  clear hb p7 q7
  go_wp2
  go_ret
  exact ⟨rfl, HC8.out⟩
end Go.Proofs.YtpincofjopmaaaaGreatDoor
