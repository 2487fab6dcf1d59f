/-
  The contracts of the document's Same and SameAll of layer 5: whether two classes, or two lists of them, are equal in all their parts.
  Conditions: as each text of it says.
-/
import Derived.Test.YtpincofjopmaaaaGreatDoorM43
import Derived.Test.YtpincofjopmaaaaGreatDoorM17
import Derived.Test.YtpincofjopmaaaaGreatDoorM12
import Derived.Test.YtpincofjopmaaaaGreatDoorM05
import Derived.Deep.Slices
import Derived.Carry
import Derived.OpenShut
import Derived.Deep.DeepHandedRow
import Derived.ProofKit
import Derived.Test.YtpincofjopmaaaaGreatDoorM10
import Derived.Test.YtpincofjopmaaaaGreatDoorCards
import Derived.Test.YtpincofjopmaaaaGreatDoorTie
import Derived.Lib.LaidIn
import Derived.Lib.LaidU8T
import Derived.Deep.DeepWitnessRowRef
import Derived.SizedLaws
set_option maxHeartbeats 8000000
set_option maxRecDepth 100000
namespace Go.Proofs.YtpincofjopmaaaaGreatDoor
open Go.RowKit
theorem refsame5_any {A1 A2 : Nat → Prop} (a b : Cls) (u v : Value) (w : World) (hu : ClsR A1 w a u) (hv : ClsR A2 w b v) (ha : a.Fit) (hb : b.Fit) :
    Calls Tryz.prog 19 #[u, v] w (Said (Cls.eqB a b) w) := by
  obtain ⟨lv1, fv1, mv1, rfl, hp1, hc1, hk1⟩ := hu
  obtain ⟨lo1, lc1, rfl⟩ := hp1.shape
  obtain ⟨fo1, fc1, rfl⟩ := hc1.shape
  obtain ⟨mo1, mc1, rfl⟩ := hk1.shape
  obtain ⟨lv2, fv2, mv2, rfl, hp2, hc2, hk2⟩ := hv
  obtain ⟨lo2, lc2, rfl⟩ := hp2.shape
  obtain ⟨fo2, fc2, rfl⟩ := hc2.shape
  obtain ⟨mo2, mc2, rfl⟩ := hk2.shape
  have hbA : Below w.heap.size w (w.alloc (.cells #[.string (S a.name), .string (S a.sup), .slice lo1 a.like.length lc1, .bool a.itf, .bool a.abs, .bool a.fin, .slice fo1 a.flds.length fc1, .slice mo1 a.mths.length mc1] 26)) := (Below.refl _ w).alloc (Nat.le_refl _) _
  have hb0 : Below w.heap.size w ((w.alloc (.cells #[.string (S a.name), .string (S a.sup), .slice lo1 a.like.length lc1, .bool a.itf, .bool a.abs, .bool a.fin, .slice fo1 a.flds.length fc1, .slice mo1 a.mths.length mc1] 26)).alloc (.cells #[.string (S b.name), .string (S b.sup), .slice lo2 b.like.length lc2, .bool b.itf, .bool b.abs, .bool b.fin, .slice fo2 b.flds.length fc2, .slice mo2 b.mths.length mc2] 26)) := below_alloc hbA _
  have HB0 := Lib.hid hb0
  have HBA := Lib.hid ((Box.new w #[.string (S a.name), .string (S a.sup), .slice lo1 a.like.length lc1, .bool a.itf, .bool a.abs, .bool a.fin, .slice fo1 a.flds.length fc1, .slice mo1 a.mths.length mc1] 26).below (w' := ((w.alloc (.cells #[.string (S a.name), .string (S a.sup), .slice lo1 a.like.length lc1, .bool a.itf, .bool a.abs, .bool a.fin, .slice fo1 a.flds.length fc1, .slice mo1 a.mths.length mc1] 26)).alloc (.cells #[.string (S b.name), .string (S b.sup), .slice lo2 b.like.length lc2, .bool b.itf, .bool b.abs, .bool b.fin, .slice fo2 b.flds.length fc2, .slice mo2 b.mths.length mc2] 26))) ((Below.refl _ _).alloc (Nat.le_refl _) _))
  have HBB := Lib.hid (show Box ((w.alloc (.cells #[.string (S a.name), .string (S a.sup), .slice lo1 a.like.length lc1, .bool a.itf, .bool a.abs, .bool a.fin, .slice fo1 a.flds.length fc1, .slice mo1 a.mths.length mc1] 26)).alloc (.cells #[.string (S b.name), .string (S b.sup), .slice lo2 b.like.length lc2, .bool b.itf, .bool b.abs, .bool b.fin, .slice fo2 b.flds.length fc2, .slice mo2 b.mths.length mc2] 26)) (w.heap.size + 1) #[.string (S b.name), .string (S b.sup), .slice lo2 b.like.length lc2, .bool b.itf, .bool b.abs, .bool b.fin, .slice fo2 b.flds.length fc2, .slice mo2 b.mths.length mc2] 26 from by have q := Box.new (w.alloc (.cells #[.string (S a.name), .string (S a.sup), .slice lo1 a.like.length lc1, .bool a.itf, .bool a.abs, .bool a.fin, .slice fo1 a.flds.length fc1, .slice mo1 a.mths.length mc1] 26)) #[.string (S b.name), .string (S b.sup), .slice lo2 b.like.length lc2, .bool b.itf, .bool b.abs, .bool b.fin, .slice fo2 b.flds.length fc2, .slice mo2 b.mths.length mc2] 26; simpa using q)
  have HL2 : Hid (∀ W, Below ((w.alloc (.cells #[.string (S a.name), .string (S a.sup), .slice lo1 a.like.length lc1, .bool a.itf, .bool a.abs, .bool a.fin, .slice fo1 a.flds.length fc1, .slice mo1 a.mths.length mc1] 26)).alloc (.cells #[.string (S b.name), .string (S b.sup), .slice lo2 b.like.length lc2, .bool b.itf, .bool b.abs, .bool b.fin, .slice fo2 b.flds.length fc2, .slice mo2 b.mths.length mc2] 26)).heap.size ((w.alloc (.cells #[.string (S a.name), .string (S a.sup), .slice lo1 a.like.length lc1, .bool a.itf, .bool a.abs, .bool a.fin, .slice fo1 a.flds.length fc1, .slice mo1 a.mths.length mc1] 26)).alloc (.cells #[.string (S b.name), .string (S b.sup), .slice lo2 b.like.length lc2, .bool b.itf, .bool b.abs, .bool b.fin, .slice fo2 b.flds.length fc2, .slice mo2 b.mths.length mc2] 26)) W → Calls Tryz.prog 54 #[.slice lo1 a.like.length lc1, .slice lo2 b.like.length lc2] W (Said (samB strEq a.like b.like) W)) := Lib.hid (fun W hW => refst_any a.like b.like _ _ W (StrR.st.below (StrR.st.below hp1 hb0) hW) (StrR.st.below (StrR.st.below hp2 hb0) hW) ha.n1 hb.n1)
  have HC := Lib.hid (Src.elem (FldR.st.below hc1 hb0))
  have HD := Lib.hid (Src.elem (FldR.st.below hc2 hb0))
  have HC7 := Lib.hid (Src.elem (MthR.st.below hk1 hb0))
  have HD7 := Lib.hid (Src.elem (MthR.st.below hk2 hb0))
  have HFA := Lib.hid ha.mths
  have HFB := Lib.hid hb.mths
  have hR : Cls.eqB a b = ((a.name == b.name) && ((a.sup == b.sup) && (samB strEq a.like b.like && ((a.itf == b.itf) && ((a.abs == b.abs) && ((a.fin == b.fin) && (samB Fld.eqB a.flds b.flds && samB Mth.eqB a.mths b.mths))))))) := rfl
  obtain ⟨R, hr⟩ : ∃ R, R = Cls.eqB a b := ⟨_, rfl⟩
  rw [← hr] at hR ⊢
  have hn1 := ha.n2
  have hm1 := hb.n2
  have hn2 := ha.n3
  have hm2 := hb.n3
  have ea0 := S_toList a.name
  have eb0 := S_toList b.name
  have ea1 := S_toList a.sup
  have eb1 := S_toList b.sup
  clear hr hb0 hbA ha hb hp1 hc1 hk1 hp2 hc2 hk2
  generalize h0 : (a.name == b.name) = d0 at hR
  generalize h1 : (a.sup == b.sup) = d1 at hR
  generalize samB strEq a.like b.like = d2 at HL2 hR
  generalize h3 : (a.itf == b.itf) = d3 at hR
  generalize h4 : (a.abs == b.abs) = d4 at hR
  generalize h5 : (a.fin == b.fin) = d5 at hR
  obtain ⟨n, hn⟩ : ∃ n, n = a.flds.length := ⟨_, rfl⟩
  obtain ⟨m, hm⟩ : ∃ m, m = b.flds.length := ⟨_, rfl⟩
  obtain ⟨n2, hnn⟩ : ∃ n, n = a.mths.length := ⟨_, rfl⟩
  obtain ⟨m2, hmm⟩ : ∃ m, m = b.mths.length := ⟨_, rfl⟩
  simp only [← hn, ← hm, ← hnn, ← hmm] at HB0 HBA HBB HL2 HC HD HC7 HD7 hn1 hm1 hn2 hm2 ⊢
  have HN := Lib.hid hn
  have HM := Lib.hid hm
  have HN7 := Lib.hid hnn
  have HM7 := Lib.hid hmm
  have HR := Lib.hid hR
  have H0 := Lib.hid h0
  have H1 := Lib.hid h1
  have H3 := Lib.hid h3
  have H4 := Lib.hid h4
  have H5 := Lib.hid h5
  clear hn hm hnn hmm hR h0 h1 h3 h4 h5
  go_enter Tryz.func19, Tryz.ntmps19
  go_upto_region 1 with fail
  generalize ((w.alloc (.cells #[.string (S a.name), .string (S a.sup), .slice lo1 a.like.length lc1, .bool a.itf, .bool a.abs, .bool a.fin, .slice fo1 n fc1, .slice mo1 n2 mc1] 26)).alloc (.cells #[.string (S b.name), .string (S b.sup), .slice lo2 b.like.length lc2, .bool b.itf, .bool b.abs, .bool b.fin, .slice fo2 m fc2, .slice mo2 m2 mc2] 26)) = W0 at HB0 HBA HBB HL2 HC HD HC7 HD7 ⊢
  generalize w.heap.size + 1 = BB at HBB ⊢
  obtain ⟨BA, hBA⟩ : ∃ B, B = w.heap.size := ⟨_, rfl⟩
  rw [← hBA] at HBA ⊢
  clear hBA
  have p0 := HBA.out.cell 0 rfl
  have q0 := HBB.out.cell 0 rfl
  have p1 := HBA.out.cell 1 rfl
  have q1 := HBB.out.cell 1 rfl
  have p2 := HBA.out.cell 2 rfl
  have q2 := HBB.out.cell 2 rfl
  have p3 := HBA.out.cell 3 rfl
  have q3 := HBB.out.cell 3 rfl
  have p4 := HBA.out.cell 4 rfl
  have q4 := HBB.out.cell 4 rfl
  have p5 := HBA.out.cell 5 rfl
  have q5 := HBB.out.cell 5 rfl
  have h0 := H0.out
  cases d0
  case false =>
    obtain rfl : R = false := by rw [HR.out]; simp
    go_wp2
    go_ret
    exact ⟨rfl, HB0.out⟩
  have h1 := H1.out
  cases d1
  case false =>
    obtain rfl : R = false := by rw [HR.out]; simp
    go_wp2
    go_ret
    exact ⟨rfl, HB0.out⟩
  have h3 := H3.out
  cases d3
  case false =>
    obtain rfl : R = false := by rw [HR.out]; simp
    go_wp2
    go_ret
    exact ⟨rfl, HB0.out⟩
  have g3 : a.itf = b.itf := by simpa using h3
  clear h3
  have h4 := H4.out
  cases d4
  case false =>
    obtain rfl : R = false := by rw [HR.out]; simp
    go_wp2
    go_ret
    exact ⟨rfl, HB0.out⟩
  have g4 : a.abs = b.abs := by simpa using h4
  clear h4
  have h5 := H5.out
  cases d5
  case false =>
    obtain rfl : R = false := by rw [HR.out]; simp
    go_wp2
    go_ret
    exact ⟨rfl, HB0.out⟩
  have g5 : a.fin = b.fin := by simpa using h5
  clear h5
  go_wp2_with fail
  refine (HL2.out _ (Below.refl _ _)).mono ?_
  rintro e w2 ⟨rfl, hb⟩
  have HB2 := Lib.hid hb
  have HC2 := Lib.hid (HB0.out.trans (HB2.out.mono HB0.out.size))
  clear hb p0 q0 p1 q1 p2 q2 p3 q3 p4 q4 p5 q5 h0 h1 g3 g4 g5
  cases d2
  case false =>
    obtain rfl : R = false := by rw [HR.out]; simp
    go_wp2
    go_ret
    exact ⟨rfl, HC2.out⟩
  simp only [Bool.true_and] at HR
  have p6 := (HBA.out.below HB2.out).cell 6 rfl
  have q6 := (HBB.out.below HB2.out).cell 6 rfl
  have p7 := (HBA.out.below HB2.out).cell 7 rfl
  have q7 := (HBB.out.below HB2.out).cell 7 rfl
  by_cases hnm : n = m
  case neg =>
    have hq : ((n : Int) != (m : Int)) = true := by rw [bne_iff_ne]; omega
    obtain rfl : R = false := by rw [HR.out]; unfold samB; rw [decide_eq_false (by rw [← HN.out, ← HM.out]; exact hnm), Bool.false_and, Bool.false_and]
    clear hnm
    go_wp2
    go_ret
    exact ⟨rfl, HC2.out⟩
  subst hnm
  by_cases hnm : n2 = m2
  case neg =>
    have hq : ((n2 : Int) != (m2 : Int)) = true := by rw [bne_iff_ne]; omega
    obtain rfl : R = false := by rw [HR.out]; unfold samB; rw [decide_eq_false (p := a.mths.length = b.mths.length) (by rw [← HN7.out, ← HM7.out]; exact hnm), Bool.false_and, Bool.and_false]
    clear hnm
    go_wp2
    go_ret
    exact ⟨rfl, HC2.out⟩
  subst hnm
  have HR : Hid (R = (((a.flds.zip b.flds).all fun q => Fld.eqB q.1 q.2) && ((a.mths.zip b.mths).all fun q => Mth.eqB q.1 q.2))) := Lib.hid (by rw [HR.out]; unfold samB; rw [decide_eq_true (p := a.mths.length = b.mths.length) (by rw [← HN7.out, ← HM7.out]), decide_eq_true (p := a.flds.length = b.flds.length) (by rw [← HN.out, ← HM.out]), Bool.true_and, Bool.true_and])
  go_wp2
  clear p6 q6 p7 q7
  go_loopw [5] (fun vi wr => ∃ k : Nat, k ≤ n ∧ vi = .int .i64 k ∧ pairT Fld.eqB a.flds b.flds k = true ∧ Below W0.heap.size W0 wr) (fun vi _ => n - (intOf vi).toNat)
  case atStart => exact ⟨0, Nat.zero_le _, rfl, by simp [pairT], HB2.out⟩
  case round =>
    obtain ⟨k, hk, rfl, hall, hbw⟩ := hrel
    have HA := Lib.hid hall
    have HB := Lib.hid hbw
    have p6 := (HBA.out.below HB.out).cell 6 rfl
    have q6 := (HBB.out.below HB.out).cell 6 rfl
    clear hall hbw
    by_cases hlt : k < n
    · have hkl : k < a.flds.length := by have := HN.out; omega
      have hkm : k < b.flds.length := by have := HM.out; omega
      obtain ⟨x, hx⟩ : ∃ x, a.flds[k]? = some x := ⟨_, List.getElem?_eq_getElem hkl⟩
      obtain ⟨y, hy⟩ : ∃ y, b.flds[k]? = some y := ⟨_, List.getElem?_eq_getElem hkm⟩
      have hoW := Only.ofBelow (S := fun _ => False) HB.out
      obtain ⟨b1, o1, ux, rfl, hux, _, hcx⟩ := HC.out k x hx
      obtain ⟨b2, o2, uy, rfl, huy, _, hcy⟩ := HD.out k y hy
      obtain rfl := hux
      obtain rfl := huy
      have dx0 := hoW.cell (a := ⟨b1, o1 + k * 3, none⟩) (hcx 0 _ rfl) id
      have dy0 := hoW.cell (a := ⟨b2, o2 + k * 3, none⟩) (hcy 0 _ rfl) id
      have dx1 := hoW.cell (a := ⟨b1, o1 + k * 3 + 1, none⟩) (hcx 1 _ rfl) id
      have dy1 := hoW.cell (a := ⟨b2, o2 + k * 3 + 1, none⟩) (hcy 1 _ rfl) id
      have dx2 := hoW.cell (a := ⟨b1, o1 + k * 3 + 2, none⟩) (hcx 2 _ rfl) id
      have dy2 := hoW.cell (a := ⟨b2, o2 + k * 3 + 2, none⟩) (hcy 2 _ rfl) id
      have e0 := S_toList x.name
      have f0 := S_toList y.name
      have e1 := S_toList x.kind
      have f1 := S_toList y.kind
      have HPS := Lib.hid (pairT_succ Fld.eqB a.flds b.flds k x y hx hy)
      rw [HA.out, Bool.true_and] at HPS
      have hk0 : (0 : Int) ≤ k := by omega
      have hkn : (k : Int) < (n : Int) := by omega
      clear hx hy hkl hkm hoW hcx hcy
      have hpe : Fld.eqB x y = ((x.name == y.name) && ((x.kind == y.kind) && ((x.tr == y.tr)))) := rfl
      rw [hpe] at HPS
      clear hpe
      generalize hp0 : (x.name == y.name) = p0 at HPS
      generalize hp1 : (x.kind == y.kind) = p1 at HPS
      generalize hp2 : (x.tr == y.tr) = p2 at HPS
      cases p0
      case false =>
        have HPS : Hid (pairT Fld.eqB a.flds b.flds (k + 1) = false) := Lib.hid (by rw [HPS.out]; simp)
        obtain rfl : R = false := by rw [HR.out, Bool.and_eq_false_iff]; exact .inl <| pairT_le Fld.eqB a.flds b.flds (k + 1) HPS.out
        have HBE := Lib.hid (HB.out)
        go_wp2_with (go_quiet (fail))
        go_ret
        exact ⟨rfl, HB0.out.trans ((below_quiet HBE.out _).mono HB0.out.size)⟩
      cases p1
      case false =>
        have HPS : Hid (pairT Fld.eqB a.flds b.flds (k + 1) = false) := Lib.hid (by rw [HPS.out]; simp)
        obtain rfl : R = false := by rw [HR.out, Bool.and_eq_false_iff]; exact .inl <| pairT_le Fld.eqB a.flds b.flds (k + 1) HPS.out
        have HBE := Lib.hid (HB.out)
        go_wp2_with (go_quiet (fail))
        go_ret
        exact ⟨rfl, HB0.out.trans ((below_quiet HBE.out _).mono HB0.out.size)⟩
      cases p2
      case false =>
        have HPS : Hid (pairT Fld.eqB a.flds b.flds (k + 1) = false) := Lib.hid (by rw [HPS.out]; simp)
        obtain rfl : R = false := by rw [HR.out, Bool.and_eq_false_iff]; exact .inl <| pairT_le Fld.eqB a.flds b.flds (k + 1) HPS.out
        have HBE := Lib.hid (HB.out)
        go_wp2_with (go_quiet (fail))
        go_ret
        exact ⟨rfl, HB0.out.trans ((below_quiet HBE.out _).mono HB0.out.size)⟩
      go_wp2_with (go_quiet (fail))
      go_roundw
      case rel => exact ⟨k + 1, by omega, by go_num, HPS.out, below_quiet HB.out _⟩
      case measure => simp [intOf]; omega
    · obtain rfl : n = k := by omega
      have hfin : ((a.flds.zip b.flds).all fun q => Fld.eqB q.1 q.2) = true := by
        have h := HA.out
        unfold pairT at h
        rw [List.take_of_length_le (by rw [List.length_zip, ← HN.out, ← HM.out]; omega)] at h
        exact h
      have HR : Hid (R = (a.mths.zip b.mths).all fun q => Mth.eqB q.1 q.2) := Lib.hid (by rw [HR.out, hfin, Bool.true_and])
      have HB3 := HB
      clear hfin hlt
      go_wp2
      clear p6 q6
      go_loopw [6] (fun vi wr => ∃ k : Nat, k ≤ n2 ∧ vi = .int .i64 k ∧ pairT Mth.eqB a.mths b.mths k = true ∧ Below W0.heap.size W0 wr) (fun vi _ => n2 - (intOf vi).toNat)
      case atStart => exact ⟨0, Nat.zero_le _, rfl, by simp [pairT], HB3.out⟩
      case round =>
        obtain ⟨k, hk, rfl, hall, hbw⟩ := hrel
        have HA := Lib.hid hall
        have HB := Lib.hid hbw
        have p7 := (HBA.out.below HB.out).cell 7 rfl
        have q7 := (HBB.out.below HB.out).cell 7 rfl
        clear hall hbw
        by_cases hlt : k < n2
        · have hkl : k < a.mths.length := by have := HN7.out; omega
          have hkm : k < b.mths.length := by have := HM7.out; omega
          obtain ⟨x, hx⟩ : ∃ x, a.mths[k]? = some x := ⟨_, List.getElem?_eq_getElem hkl⟩
          obtain ⟨y, hy⟩ : ∃ y, b.mths[k]? = some y := ⟨_, List.getElem?_eq_getElem hkm⟩
          obtain ⟨b1, o1, ux, rfl, hux, _, hcx⟩ := HC7.out k x hx
          obtain ⟨b2, o2, uy, rfl, huy, _, hcy⟩ := HD7.out k y hy
          have HUX := Lib.hid hux
          have HUY := Lib.hid huy
          obtain ⟨_, _, _, rfl, ⟨po, pc, rfl⟩, ⟨co, cc, rfl⟩, ⟨ko, kc, rfl⟩⟩ := mth_shape hux
          obtain ⟨_, _, _, rfl, ⟨po1, pc1, rfl⟩, ⟨co1, cc1, rfl⟩, ⟨ko1, kc1, rfl⟩⟩ := mth_shape huy
          have HPS := Lib.hid (pairT_succ Mth.eqB a.mths b.mths k x y hx hy)
          rw [HA.out, Bool.true_and] at HPS
          have HFX : Hid (∀ W, Below W0.heap.size W0 W → Calls Tryz.prog 55 #[.agg #[.string (S x.name), .slice po x.params.length pc, .string (S x.res), .bool x.abs, .int .i64 x.loc, .slice co x.code.length cc, .slice ko x.cats.length kc], .agg #[.string (S y.name), .slice po1 y.params.length pc1, .string (S y.res), .bool y.abs, .int .i64 y.loc, .slice co1 y.code.length cc1, .slice ko1 y.cats.length kc1]] W (Said (Mth.eqB x y) W)) := Lib.hid (fun W hW =>
            refsamem_any (A1 := A1) (A2 := A2) x y _ _ W (MthR.st.keep HUX.out (Only.ofBelow (S := fun _ => False) hW) (fun _ _ => id)) (MthR.st.keep HUY.out (Only.ofBelow (S := fun _ => False) hW) (fun _ _ => id)) (HFA.out x (List.mem_of_getElem? hx)) (HFB.out y (List.mem_of_getElem? hy)))
          have HS : Hid (∀ W, Below W0.heap.size W0 W → W.cell? ⟨BA, 7, none⟩ = some (.slice (some ⟨b1, o1, none⟩) n2 mc1) ∧ W.cell? ⟨BB, 7, none⟩ = some (.slice (some ⟨b2, o2, none⟩) n2 mc2) ∧ W.cell? ⟨b1, o1 + k * 7, none⟩ = some (.string (S x.name)) ∧ W.cell? ⟨b1, o1 + k * 7 + 1, none⟩ = some (.slice po x.params.length pc) ∧ W.cell? ⟨b1, o1 + k * 7 + 2, none⟩ = some (.string (S x.res)) ∧ W.cell? ⟨b1, o1 + k * 7 + 3, none⟩ = some (.bool x.abs) ∧ W.cell? ⟨b1, o1 + k * 7 + 4, none⟩ = some (.int .i64 x.loc) ∧ W.cell? ⟨b1, o1 + k * 7 + 5, none⟩ = some (.slice co x.code.length cc) ∧ W.cell? ⟨b1, o1 + k * 7 + 6, none⟩ = some (.slice ko x.cats.length kc) ∧ W.cell? ⟨b2, o2 + k * 7, none⟩ = some (.string (S y.name)) ∧ W.cell? ⟨b2, o2 + k * 7 + 1, none⟩ = some (.slice po1 y.params.length pc1) ∧ W.cell? ⟨b2, o2 + k * 7 + 2, none⟩ = some (.string (S y.res)) ∧ W.cell? ⟨b2, o2 + k * 7 + 3, none⟩ = some (.bool y.abs) ∧ W.cell? ⟨b2, o2 + k * 7 + 4, none⟩ = some (.int .i64 y.loc) ∧ W.cell? ⟨b2, o2 + k * 7 + 5, none⟩ = some (.slice co1 y.code.length cc1) ∧ W.cell? ⟨b2, o2 + k * 7 + 6, none⟩ = some (.slice ko1 y.cats.length kc1)) := Lib.hid (fun W hW => by
            have ho := Only.ofBelow (S := fun _ => False) hW
            exact ⟨(HBA.out.below hW).cell 7 rfl, (HBB.out.below hW).cell 7 rfl, ho.cell (a := ⟨b1, o1 + k * 7, none⟩) (hcx 0 _ rfl) id, ho.cell (a := ⟨b1, o1 + k * 7 + 1, none⟩) (hcx 1 _ rfl) id, ho.cell (a := ⟨b1, o1 + k * 7 + 2, none⟩) (hcx 2 _ rfl) id, ho.cell (a := ⟨b1, o1 + k * 7 + 3, none⟩) (hcx 3 _ rfl) id, ho.cell (a := ⟨b1, o1 + k * 7 + 4, none⟩) (hcx 4 _ rfl) id, ho.cell (a := ⟨b1, o1 + k * 7 + 5, none⟩) (hcx 5 _ rfl) id, ho.cell (a := ⟨b1, o1 + k * 7 + 6, none⟩) (hcx 6 _ rfl) id, ho.cell (a := ⟨b2, o2 + k * 7, none⟩) (hcy 0 _ rfl) id, ho.cell (a := ⟨b2, o2 + k * 7 + 1, none⟩) (hcy 1 _ rfl) id, ho.cell (a := ⟨b2, o2 + k * 7 + 2, none⟩) (hcy 2 _ rfl) id, ho.cell (a := ⟨b2, o2 + k * 7 + 3, none⟩) (hcy 3 _ rfl) id, ho.cell (a := ⟨b2, o2 + k * 7 + 4, none⟩) (hcy 4 _ rfl) id, ho.cell (a := ⟨b2, o2 + k * 7 + 5, none⟩) (hcy 5 _ rfl) id, ho.cell (a := ⟨b2, o2 + k * 7 + 6, none⟩) (hcy 6 _ rfl) id⟩)
          have hk0 : (0 : Int) ≤ k := by omega
          have hkn : (k : Int) < (n2 : Int) := by omega
          clear hx hy hkl hkm hcx hcy hux huy
          go_upto_region 11 with fail
          clear p7 q7
          have hB := HB.out
          obtain ⟨g0, g1, g2, g3, g4, g5, g6, g7, g8, g9, g10, g11, g12, g13, g14, g15⟩ := HS.out _ hB
          first
          | (go_region_held (fun W => W.cell? ⟨BA, 7, none⟩ = some (.slice (some ⟨b1, o1, none⟩) n2 mc1) ∧ W.cell? ⟨BB, 7, none⟩ = some (.slice (some ⟨b2, o2, none⟩) n2 mc2) ∧ W.cell? ⟨b1, o1 + k * 7, none⟩ = some (.string (S x.name)) ∧ W.cell? ⟨b1, o1 + k * 7 + 1, none⟩ = some (.slice po x.params.length pc) ∧ W.cell? ⟨b1, o1 + k * 7 + 2, none⟩ = some (.string (S x.res)) ∧ W.cell? ⟨b1, o1 + k * 7 + 3, none⟩ = some (.bool x.abs) ∧ W.cell? ⟨b1, o1 + k * 7 + 4, none⟩ = some (.int .i64 x.loc) ∧ W.cell? ⟨b1, o1 + k * 7 + 5, none⟩ = some (.slice co x.code.length cc) ∧ W.cell? ⟨b1, o1 + k * 7 + 6, none⟩ = some (.slice ko x.cats.length kc) ∧ W.cell? ⟨b2, o2 + k * 7, none⟩ = some (.string (S y.name)) ∧ W.cell? ⟨b2, o2 + k * 7 + 1, none⟩ = some (.slice po1 y.params.length pc1) ∧ W.cell? ⟨b2, o2 + k * 7 + 2, none⟩ = some (.string (S y.res)) ∧ W.cell? ⟨b2, o2 + k * 7 + 3, none⟩ = some (.bool y.abs) ∧ W.cell? ⟨b2, o2 + k * 7 + 4, none⟩ = some (.int .i64 y.loc) ∧ W.cell? ⟨b2, o2 + k * 7 + 5, none⟩ = some (.slice co1 y.code.length cc1) ∧ W.cell? ⟨b2, o2 + k * 7 + 6, none⟩ = some (.slice ko1 y.cats.length kc1)) ((refine HS.out _ ?_; (repeat (first | (with_reducible exact hB) | (with_reducible (apply below_step; rotate_left; assumption)) | (with_reducible refine below_alloc ?_ _) | (with_reducible refine below_drew ?_)))))
              (first | ((with_reducible refine (HFX.out _ ?_).mono ?_); (focus ((repeat (first | (with_reducible exact hB) | (with_reducible (apply below_step; rotate_left; assumption)) | (with_reducible refine below_alloc ?_ _) | (with_reducible refine below_drew ?_))); done)); rintro e w1 ⟨rfl, b9⟩)))
          | fail
          have hb9 : Below W0.heap.size W0 w1 := by (repeat (first | (with_reducible exact hB) | (with_reducible (apply below_step; rotate_left; assumption)) | (with_reducible refine below_drew ?_)))
          have HB9 := Lib.hid hb9
          clear b9 hb9 hB HFX HS g0 g1 g2 g3 g4 g5 g6 g7 g8 g9 g10 g11 g12 g13 g14 g15
          generalize Mth.eqB x y = p at HPS ⊢
          cases p
          case true =>
            go_wp2
            go_roundw
            case rel => exact ⟨k + 1, by omega, by go_num, HPS.out, HB9.out⟩
            case measure => simp [intOf]; omega
          case false =>
            obtain rfl : R = false := by rw [HR.out]; exact pairT_le Mth.eqB a.mths b.mths (k + 1) HPS.out
            go_wp2
            go_ret
            exact ⟨rfl, HB0.out.trans (HB9.out.mono HB0.out.size)⟩
        · obtain rfl : n2 = k := by omega
          have hfin : R = true := by
            have h := HA.out
            unfold pairT at h
            rw [List.take_of_length_le (by rw [List.length_zip, ← HN7.out, ← HM7.out]; omega)] at h
            rw [HR.out]
            exact h
          subst hfin
          go_wp2
          go_ret
          exact ⟨rfl, HB0.out.trans (HB.out.mono HB0.out.size)⟩
end Go.Proofs.YtpincofjopmaaaaGreatDoor
namespace Go.Proofs.YtpincofjopmaaaaGreatDoor
set_option maxRecDepth 100000
open Go.ChangeShapes Go.WideShapes Go.ChangeAt Go.RowKit Go.Lib Go.WideMaps Go.WideElems Go.Deep
instance : Inhabited Ins := ⟨⟨[], 0, []⟩⟩
instance : Inhabited Fld := ⟨⟨[], [], false⟩⟩
instance : Inhabited Cat := ⟨⟨0, 0, 0, []⟩⟩
instance : Inhabited Mth := ⟨⟨[], [], [], false, 0, [], []⟩⟩
instance : Inhabited Cls := ⟨⟨[], [], [], false, false, false, [], []⟩⟩
end Go.Proofs.YtpincofjopmaaaaGreatDoor
namespace Go.Proofs.YtpincofjopmaaaaGreatDoor
open Go.Shelf Go.RowKit Go.Lib
theorem own : ownKnob Tryz.prog.godebug = none := by kernel_rfl
theorem first_eq : Rows.laid_unicode_utf8_first = Lib.firstData := by kernel_rfl
theorem accept_eq : (Rows.laid_unicode_utf8_acceptRanges : DataW Unit) = Lib.acceptData := by kernel_rfl
def opsData : DataW Unit := .agg (opTab.map fun x => .agg [.lit (.string x.1), .lit (.int .i64 (x.2 : Nat))])
theorem ops_eq : (Rows.laid_squinch_code_operators : DataW Unit) = opsData := by kernel_rfl
theorem tabs_of {W : World} (h3 : VarReads Tryz.prog W "unicode/utf8.first" Rows.laid_unicode_utf8_first) (h4 : VarReads Tryz.prog W "unicode/utf8.acceptRanges" Rows.laid_unicode_utf8_acceptRanges) : Tabs W := by
  rw [accept_eq] at h4
  rw [first_eq] at h3
  exact utf8Tabs_of_readsT (U8Types.of196 laysValid) ⟨by kernel_rfl, by kernel_rfl, by kernel_rfl, by kernel_rfl, by kernel_rfl, by kernel_rfl, by kernel_rfl⟩ h3 h4
theorem pair_at : ∀ (l : List (List UInt8 × Nat)) (i : Nat) (h : i < l.length), (l.flatMap fun x => [Value.string (S x.1), Value.int .i64 (x.2 : Nat)])[2 * i]? = some (.string (S l[i].1)) ∧ (l.flatMap fun x => [Value.string (S x.1), Value.int .i64 (x.2 : Nat)])[2 * i + 1]? = some (.int .i64 (l[i].2 : Nat))
  | x :: l, 0, _ => ⟨rfl, rfl⟩
  | x :: l, i + 1, h => by
    have ih := pair_at l i (by simpa using h)
    rw [List.flatMap_cons, show 2 * (i + 1) = 2 * i + 2 from by omega]
    exact ⟨ih.1, ih.2⟩
theorem pair_len (l : List (List UInt8 × Nat)) : (l.flatMap fun x => [Value.string (S x.1), Value.int .i64 (x.2 : Nat)]).length = 2 * l.length := by
  induction l with
  | nil => rfl
  | cons x l ih => rw [List.flatMap_cons, List.length_append, ih, List.length_cons]; simp; omega
theorem cells_oper : Tryz.prog.cellsOf 242 = 2 := by kernel_rfl
theorem cells_str1 : Tryz.prog.cellsOf 9 = 1 := by kernel_rfl
theorem cells_operand : Tryz.prog.cellsOf 240 = 1 := by kernel_rfl
theorem oper_of {w : World} {fuel : Nat} {cs : List Value} {p : List MemPlace} {x : List UInt8 × Nat} (hl : cs.length = 2)
    (h : DataW.trod (fun _ => ()) Tryz.prog w 0 (fun _ => true) false fuel 242 cs = some (.agg [.lit (.string x.1), .lit (.int .i64 (x.2 : Nat))], p)) : cs = [.string (S x.1), .int .i64 (x.2 : Nat)] := by
  obtain ⟨ys, n, _, hx, _, hyl, hall⟩ := DataW.trod_struct Tryz.underlying242 h
  match cs, hl with
  | [c0, c1], _ =>
    have g0 : DataW.trod (fun _ => ()) Tryz.prog w 0 (fun _ => true) false n 9 [c0] = ys[0]? := by
      have g := hall 0 _ rfl
      change DataW.trod (fun _ => ()) Tryz.prog w 0 (fun _ => true) false n 9 (([c0, c1].drop 0).take (Tryz.prog.cellsOf 9)) = ys[0]? at g
      rw [cells_str1] at g
      exact g
    have g1 : DataW.trod (fun _ => ()) Tryz.prog w 0 (fun _ => true) false n 240 [c1] = ys[1]? := by
      have g := hall 1 _ rfl
      change DataW.trod (fun _ => ()) Tryz.prog w 0 (fun _ => true) false n 240 (([c0, c1].drop 1).take (Tryz.prog.cellsOf 240)) = ys[1]? at g
      rw [cells_operand] at g
      exact g
    have hy : ys.map (·.1) = [.lit (.string x.1), .lit (.int .i64 (x.2 : Nat))] := by
      have := congrArg Prod.fst hx
      simpa using this.symm
    match ys, hy with
    | [y0, y1], hy =>
      obtain ⟨s, e0, q0, _⟩ := DataW.trod_string Tryz.underlying9 g0
      obtain ⟨z, e1, q1, _⟩ := DataW.trod_int Tryz.underlying240 g1
      simp only [List.cons.injEq, and_true] at e0 e1
      subst e0 e1 q0 q1
      simp only [List.map_cons, List.map_nil, List.cons.injEq, and_true] at hy
      obtain ⟨h0, h1⟩ := hy
      injection h0 with h0
      injection h0 with h0
      injection h1 with h1
      injection h1 with _ h1
      rw [← h0, ← h1, S_data]
theorem optab_of {W : World} (h : VarReads Tryz.prog W "squinch/code.operators" Rows.laid_squinch_code_operators) : OpTab W := by
  rw [ops_eq] at h
  obtain ⟨g, t, cs, fuel, p, hg, hty, hvar, hd⟩ := h
  obtain rfl : 4 = g := Option.some.inj ((show Tryz.prog.globalNamed "squinch/code.operators" = some 4 by kernel_rfl).symm.trans hg)
  obtain rfl : 287 = t := Option.some.inj ((show (Tryz.prog.globals[4]?).map (·.type) = some 287 by kernel_rfl).symm.trans hty)
  have each : ∀ i (hi : i < opTab.length), cs.toList[2 * i]? = some (.string (S opTab[i].1)) ∧ cs.toList[2 * i + 1]? = some (.int .i64 (opTab[i].2 : Nat)) := by
    intro i hi
    obtain ⟨fuel', d, q, hdi, he⟩ := array_elem Tryz.underlying287 hd i (by rw [opTab_len] at hi; exact hi)
    rw [List.getElem?_map, List.getElem?_eq_getElem hi, Option.map_some, Option.some.injEq] at hdi
    subst hdi
    rw [cells_oper] at he
    have hlen : ((cs.toList.drop (i * 2)).take 2).length = 2 := by
      obtain ⟨_, _, _, _, hl, _, _⟩ := DataW.trod_struct Tryz.underlying242 he
      rw [hl, cells_oper]
    have hc := oper_of (x := opTab[i]) hlen he
    have e0 := congrArg (·[0]?) hc
    have e1 := congrArg (·[1]?) hc
    simp only [List.getElem?_take, List.getElem?_drop] at e0 e1
    refine ⟨?_, ?_⟩
    · simpa [Nat.mul_comm] using e0
    · simpa [Nat.mul_comm] using e1
  intro j v hj
  have hjl : j < 84 := by
    rcases Nat.lt_or_ge j 84 with h | h
    · exact h
    · rw [List.getElem?_eq_none (by unfold opCells; rw [pair_len, opTab_len]; exact h)] at hj; cases hj
  have hcell : W.cell? ⟨4, 0 + j, none⟩ = cs.toList[j]? := by
    rw [Nat.zero_add, World.var?_cell hg hvar j, Array.getElem?_toList]
  have hi : j / 2 < opTab.length := by rw [opTab_len]; omega
  have hA := pair_at opTab (j / 2) hi
  have hB := each (j / 2) hi
  unfold opCells at hj
  rw [hcell]
  rcases (show j = 2 * (j / 2) ∨ j = 2 * (j / 2) + 1 by omega) with h | h
  · rw [h] at hj ⊢
    rw [hB.1, ← hA.1]
    exact hj
  · rw [h] at hj ⊢
    rw [hB.2, ← hA.2]
    exact hj
end Go.Proofs.YtpincofjopmaaaaGreatDoor
