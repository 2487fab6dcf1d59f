/-
  The walk of the law ClassSigns: methods that may be are signed alike just if they are called with, and answer, the same kinds.
  Conditions: the tables hold what they hold at the start.
-/
import Derived.Test.YtpincofjopmaaaaGreatDoorM61
import Derived.Test.YtpincofjopmaaaaGreatDoorM40
import Derived.Test.YtpincofjopmaaaaGreatDoorM41
import Derived.Deep.DeepCutAuto
import Derived.Deep.RegionHeld
import Derived.Deep.DrawnRows
namespace Go.Proofs.YtpincofjopmaaaaGreatDoor
open Go.RowKit
theorem samB_str (a b : List (List UInt8)) : (decide (a.length = b.length) && (a.zip b).all fun z => strEq z.1 z.2) = decide (a = b) := by
  rw [Bool.eq_iff_iff]
  simp only [Bool.and_eq_true, decide_eq_true_eq]
  constructor
  · rintro ⟨h1, h2⟩
    induction a generalizing b with
    | nil => cases b with
      | nil => rfl
      | cons y b => simp at h1
    | cons x a ih => cases b with
      | nil => simp at h1
      | cons y b =>
        rw [List.zip_cons_cons, List.all_cons, Bool.and_eq_true] at h2
        have hx : x = y := by simpa [strEq] using h2.1
        rw [hx, ih b (by simpa using h1) h2.2]
  · rintro rfl
    refine ⟨rfl, ?_⟩
    induction a with
    | nil => rfl
    | cons x a ih => rw [List.zip_cons_cons, List.all_cons, ih]; simp [strEq]
set_option maxHeartbeats 4000000 in
set_option maxRecDepth 100000 in
theorem classSigns_any (u v : Value) (a b : Cls) (w : World) (hT : CT w) (hu : ClsR Anyw w a u) (hv : ClsR Anyw w b v) (ha : a.real) (hb : b.real) :
    Calls Tryz.prog 4 #[u, v] w (Said true w) := by
  have HT := Lib.hid hT
  have hu0 := hu
  have hv0 := hv
  obtain ⟨lv1, fv1, mv1, rfl, hp1, hc1, hk1⟩ := hu
  obtain ⟨lo1, lc1, rfl⟩ := hp1.shape
  obtain ⟨fo1, fc1, rfl⟩ := hc1.shape
  obtain ⟨mo1, mc1, rfl⟩ := hk1.shape
  obtain ⟨lv2, fv2, mv2, rfl, hp2, hc2, hk2⟩ := hv
  obtain ⟨lo2, lc2, rfl⟩ := hp2.shape
  obtain ⟨fo2, fc2, rfl⟩ := hc2.shape
  obtain ⟨mo2, mc2, rfl⟩ := hk2.shape
  clear hp1 hc1 hp2 hc2
  have hbA : Below w.heap.size w (w.alloc (.cells #[.string (S a.name), .string (S a.sup), .slice lo1 a.like.length lc1, .bool a.itf, .bool a.abs, .bool a.fin, .slice fo1 a.flds.length fc1, .slice mo1 a.mths.length mc1] 26)) := (Below.refl _ w).alloc (Nat.le_refl _) _
  have hb0 : Below w.heap.size w ((w.alloc (.cells #[.string (S a.name), .string (S a.sup), .slice lo1 a.like.length lc1, .bool a.itf, .bool a.abs, .bool a.fin, .slice fo1 a.flds.length fc1, .slice mo1 a.mths.length mc1] 26)).alloc (.cells #[.string (S b.name), .string (S b.sup), .slice lo2 b.like.length lc2, .bool b.itf, .bool b.abs, .bool b.fin, .slice fo2 b.flds.length fc2, .slice mo2 b.mths.length mc2] 26)) := below_alloc hbA _
  have HB0 := Lib.hid hb0
  have HBA := Lib.hid ((Box.new w #[.string (S a.name), .string (S a.sup), .slice lo1 a.like.length lc1, .bool a.itf, .bool a.abs, .bool a.fin, .slice fo1 a.flds.length fc1, .slice mo1 a.mths.length mc1] 26).below (w' := ((w.alloc (.cells #[.string (S a.name), .string (S a.sup), .slice lo1 a.like.length lc1, .bool a.itf, .bool a.abs, .bool a.fin, .slice fo1 a.flds.length fc1, .slice mo1 a.mths.length mc1] 26)).alloc (.cells #[.string (S b.name), .string (S b.sup), .slice lo2 b.like.length lc2, .bool b.itf, .bool b.abs, .bool b.fin, .slice fo2 b.flds.length fc2, .slice mo2 b.mths.length mc2] 26))) ((Below.refl _ _).alloc (Nat.le_refl _) _))
  have HBB := Lib.hid (show Box ((w.alloc (.cells #[.string (S a.name), .string (S a.sup), .slice lo1 a.like.length lc1, .bool a.itf, .bool a.abs, .bool a.fin, .slice fo1 a.flds.length fc1, .slice mo1 a.mths.length mc1] 26)).alloc (.cells #[.string (S b.name), .string (S b.sup), .slice lo2 b.like.length lc2, .bool b.itf, .bool b.abs, .bool b.fin, .slice fo2 b.flds.length fc2, .slice mo2 b.mths.length mc2] 26)) (w.heap.size + 1) #[.string (S b.name), .string (S b.sup), .slice lo2 b.like.length lc2, .bool b.itf, .bool b.abs, .bool b.fin, .slice fo2 b.flds.length fc2, .slice mo2 b.mths.length mc2] 26 from by have q := Box.new (w.alloc (.cells #[.string (S a.name), .string (S a.sup), .slice lo1 a.like.length lc1, .bool a.itf, .bool a.abs, .bool a.fin, .slice fo1 a.flds.length fc1, .slice mo1 a.mths.length mc1] 26)) #[.string (S b.name), .string (S b.sup), .slice lo2 b.like.length lc2, .bool b.itf, .bool b.abs, .bool b.fin, .slice fo2 b.flds.length fc2, .slice mo2 b.mths.length mc2] 26; simpa using q)
  have HVA : Hid (ClsR Anyw ((w.alloc (.cells #[.string (S a.name), .string (S a.sup), .slice lo1 a.like.length lc1, .bool a.itf, .bool a.abs, .bool a.fin, .slice fo1 a.flds.length fc1, .slice mo1 a.mths.length mc1] 26)).alloc (.cells #[.string (S b.name), .string (S b.sup), .slice lo2 b.like.length lc2, .bool b.itf, .bool b.abs, .bool b.fin, .slice fo2 b.flds.length fc2, .slice mo2 b.mths.length mc2] 26)) a (.agg #[.string (S a.name), .string (S a.sup), .slice lo1 a.like.length lc1, .bool a.itf, .bool a.abs, .bool a.fin, .slice fo1 a.flds.length fc1, .slice mo1 a.mths.length mc1])) := Lib.hid (ClsR.st.keep hu0 (Only.ofBelow (S := fun _ => False) hb0) (fun _ _ => id))
  have HVB : Hid (ClsR Anyw ((w.alloc (.cells #[.string (S a.name), .string (S a.sup), .slice lo1 a.like.length lc1, .bool a.itf, .bool a.abs, .bool a.fin, .slice fo1 a.flds.length fc1, .slice mo1 a.mths.length mc1] 26)).alloc (.cells #[.string (S b.name), .string (S b.sup), .slice lo2 b.like.length lc2, .bool b.itf, .bool b.abs, .bool b.fin, .slice fo2 b.flds.length fc2, .slice mo2 b.mths.length mc2] 26)) b (.agg #[.string (S b.name), .string (S b.sup), .slice lo2 b.like.length lc2, .bool b.itf, .bool b.abs, .bool b.fin, .slice fo2 b.flds.length fc2, .slice mo2 b.mths.length mc2])) := Lib.hid (ClsR.st.keep hv0 (Only.ofBelow (S := fun _ => False) hb0) (fun _ _ => id))
  have HC7 := Lib.hid (Src.elem (MthR.st.below hk1 hb0))
  have HD7 := Lib.hid (Src.elem (MthR.st.below hk2 hb0))
  have HRA := Lib.hid ha
  have HRB := Lib.hid hb
  clear hT hu0 hv0 hk1 hk2 hbA hb0 ha hb
  go_enter Tryz.func4, Tryz.ntmps4
  go_upto_region 1 with fail
  generalize ((w.alloc (.cells #[.string (S a.name), .string (S a.sup), .slice lo1 a.like.length lc1, .bool a.itf, .bool a.abs, .bool a.fin, .slice fo1 a.flds.length fc1, .slice mo1 a.mths.length mc1] 26)).alloc (.cells #[.string (S b.name), .string (S b.sup), .slice lo2 b.like.length lc2, .bool b.itf, .bool b.abs, .bool b.fin, .slice fo2 b.flds.length fc2, .slice mo2 b.mths.length mc2] 26)) = W0 at HB0 HBA HBB HVA HVB HC7 HD7 ⊢
  generalize w.heap.size + 1 = BB at HBB ⊢
  obtain ⟨BA, hBA⟩ : ∃ B, B = w.heap.size := ⟨_, rfl⟩
  rw [← hBA] at HBA ⊢
  clear hBA
  have HS : Hid (∀ W, Below W0.heap.size W0 W → W.cell? ⟨BA, 0, none⟩ = some (.string (S a.name)) ∧ W.cell? ⟨BA, 1, none⟩ = some (.string (S a.sup)) ∧ W.cell? ⟨BA, 2, none⟩ = some (.slice lo1 a.like.length lc1) ∧ W.cell? ⟨BA, 3, none⟩ = some (.bool a.itf) ∧ W.cell? ⟨BA, 4, none⟩ = some (.bool a.abs) ∧ W.cell? ⟨BA, 5, none⟩ = some (.bool a.fin) ∧ W.cell? ⟨BA, 6, none⟩ = some (.slice fo1 a.flds.length fc1) ∧ W.cell? ⟨BA, 7, none⟩ = some (.slice mo1 a.mths.length mc1) ∧ W.cell? ⟨BB, 0, none⟩ = some (.string (S b.name)) ∧ W.cell? ⟨BB, 1, none⟩ = some (.string (S b.sup)) ∧ W.cell? ⟨BB, 2, none⟩ = some (.slice lo2 b.like.length lc2) ∧ W.cell? ⟨BB, 3, none⟩ = some (.bool b.itf) ∧ W.cell? ⟨BB, 4, none⟩ = some (.bool b.abs) ∧ W.cell? ⟨BB, 5, none⟩ = some (.bool b.fin) ∧ W.cell? ⟨BB, 6, none⟩ = some (.slice fo2 b.flds.length fc2) ∧ W.cell? ⟨BB, 7, none⟩ = some (.slice mo2 b.mths.length mc2)) := Lib.hid (fun W hW => by
    have hx := HBA.out.below hW
    have hy := HBB.out.below hW
    exact ⟨hx.cell 0 rfl, hx.cell 1 rfl, hx.cell 2 rfl, hx.cell 3 rfl, hx.cell 4 rfl, hx.cell 5 rfl, hx.cell 6 rfl, hx.cell 7 rfl, hy.cell 0 rfl, hy.cell 1 rfl, hy.cell 2 rfl, hy.cell 3 rfl, hy.cell 4 rfl, hy.cell 5 rfl, hy.cell 6 rfl, hy.cell 7 rfl⟩)
  have HFA : Hid (∀ W, Below W0.heap.size W0 W → Calls Tryz.prog 14 #[.agg #[.string (S a.name), .string (S a.sup), .slice lo1 a.like.length lc1, .bool a.itf, .bool a.abs, .bool a.fin, .slice fo1 a.flds.length fc1, .slice mo1 a.mths.length mc1]] W (Said (!a.great) W)) := Lib.hid (fun W hW => cfew_any (A := Anyw) a _ W (ClsR.st.keep HVA.out (Only.ofBelow (S := fun _ => False) hW) (fun _ _ => id)) HRA.out.2.1)
  have HFB : Hid (∀ W, Below W0.heap.size W0 W → Calls Tryz.prog 14 #[.agg #[.string (S b.name), .string (S b.sup), .slice lo2 b.like.length lc2, .bool b.itf, .bool b.abs, .bool b.fin, .slice fo2 b.flds.length fc2, .slice mo2 b.mths.length mc2]] W (Said (!b.great) W)) := Lib.hid (fun W hW => cfew_any (A := Anyw) b _ W (ClsR.st.keep HVB.out (Only.ofBelow (S := fun _ => False) hW) (fun _ _ => id)) HRB.out.2.1)
  have HA : Hid (∀ W, Below W0.heap.size W0 W → Calls Tryz.prog 15 #[] W (Said true W)) := Lib.hid (fun W hW => awake5_any W (HT.out.keep (HB0.out.trans (hW.mono HB0.out.size))))
  have HCA : Hid (∀ W, Below W0.heap.size W0 W → Calls Tryz.prog 20 #[.agg #[.string (S a.name), .string (S a.sup), .slice lo1 a.like.length lc1, .bool a.itf, .bool a.abs, .bool a.fin, .slice fo1 a.flds.length fc1, .slice mo1 a.mths.length mc1]] W (fun e w' => e = .returned (.int .i64 (a.e : Nat)) ∧ Below W.heap.size W w')) := Lib.hid (fun W hW => refcheck5_any a _ W (ClsR.st.keep HVA.out (Only.ofBelow (S := fun _ => False) hW) (fun _ _ => id)) HRA.out.2.1)
  have HCB : Hid (∀ W, Below W0.heap.size W0 W → Calls Tryz.prog 20 #[.agg #[.string (S b.name), .string (S b.sup), .slice lo2 b.like.length lc2, .bool b.itf, .bool b.abs, .bool b.fin, .slice fo2 b.flds.length fc2, .slice mo2 b.mths.length mc2]] W (fun e w' => e = .returned (.int .i64 (b.e : Nat)) ∧ Below W.heap.size W w')) := Lib.hid (fun W hW => refcheck5_any b _ W (ClsR.st.keep HVB.out (Only.ofBelow (S := fun _ => False) hW) (fun _ _ => id)) HRB.out.2.1)
  have HEA : Hid (a.e = 0 → ∀ m ∈ a.mths, m.Good) := Lib.hid (fun h => Cls.Good.mths ⟨h, HRA.out.1⟩)
  have HEB : Hid (b.e = 0 → ∀ m ∈ b.mths, m.Good) := Lib.hid (fun h => Cls.Good.mths ⟨h, HRB.out.1⟩)
  generalize a.e = EA at HCA HEA
  generalize b.e = EB at HCB HEB
  obtain ⟨c0, c1, c2, c3, c4, c5, c6, c7, d0, d1, d2, d3, d4, d5, d6, d7⟩ := HS.out W0 (Below.refl _ W0)
  go_wp2_with fail
  refine (HFA.out W0 (Below.refl _ W0)).mono ?_
  rintro e w1 ⟨rfl, hb1⟩
  clear HFA c0 c1 c2 c3 c4 c5 c6 c7 d0 d1 d2 d3 d4 d5 d6 d7
  have HB1 := Lib.hid hb1
  clear hb1
  generalize a.great = g1 at ⊢
  cases g1
  case true =>
    go_wp2_with fail
    refine (HA.out w1 HB1.out).mono ?_
    rintro e wz ⟨rfl, hbz⟩
    have HBZ := Lib.hid (HB0.out.trans ((HB1.out.trans (hbz.mono HB1.out.size)).mono HB0.out.size))
    clear hbz
    go_wp2
    go_ret
    exact ⟨rfl, HBZ.out⟩
  obtain ⟨c0, c1, c2, c3, c4, c5, c6, c7, d0, d1, d2, d3, d4, d5, d6, d7⟩ := HS.out w1 (HB1.out)
  go_wp2_with fail
  refine (HFB.out w1 HB1.out).mono ?_
  rintro e w2 ⟨rfl, hb2⟩
  clear HFB c0 c1 c2 c3 c4 c5 c6 c7 d0 d1 d2 d3 d4 d5 d6 d7
  have HB2 := Lib.hid (HB1.out.trans (hb2.mono HB1.out.size))
  clear hb2 HB1
  generalize b.great = g2 at ⊢
  cases g2
  case true =>
    go_wp2_with fail
    refine (HA.out w2 HB2.out).mono ?_
    rintro e wz ⟨rfl, hbz⟩
    have HBZ := Lib.hid (HB0.out.trans ((HB2.out.trans (hbz.mono HB2.out.size)).mono HB0.out.size))
    clear hbz
    go_wp2
    go_ret
    exact ⟨rfl, HBZ.out⟩
  obtain ⟨c0, c1, c2, c3, c4, c5, c6, c7, d0, d1, d2, d3, d4, d5, d6, d7⟩ := HS.out w2 (HB2.out)
  go_wp2_with fail
  refine (HCA.out w2 HB2.out).mono ?_
  rintro e w3 ⟨rfl, hb3⟩
  clear HCA c0 c1 c2 c3 c4 c5 c6 c7 d0 d1 d2 d3 d4 d5 d6 d7
  have HB3 := Lib.hid (HB2.out.trans (hb3.mono HB2.out.size))
  clear hb3 HB2
  by_cases hz : EA = 0
  case neg =>
    have hzb : ((EA : Int) != 0) = true := by rw [bne_iff_ne]; omega
    clear hz
    go_wp2_with fail
    refine (HA.out w3 HB3.out).mono ?_
    rintro e wz ⟨rfl, hbz⟩
    have HBZ := Lib.hid (HB0.out.trans ((HB3.out.trans (hbz.mono HB3.out.size)).mono HB0.out.size))
    clear hbz
    go_wp2
    go_ret
    exact ⟨rfl, HBZ.out⟩
  subst hz
  obtain ⟨c0, c1, c2, c3, c4, c5, c6, c7, d0, d1, d2, d3, d4, d5, d6, d7⟩ := HS.out w3 (HB3.out)
  go_wp2_with fail
  refine (HCB.out w3 HB3.out).mono ?_
  rintro e w4 ⟨rfl, hb4⟩
  clear HCB c0 c1 c2 c3 c4 c5 c6 c7 d0 d1 d2 d3 d4 d5 d6 d7
  have HB4 := Lib.hid (HB3.out.trans (hb4.mono HB3.out.size))
  clear hb4 HB3
  by_cases hz : EB = 0
  case neg =>
    have hzb : ((EB : Int) != 0) = true := by rw [bne_iff_ne]; omega
    clear hz
    go_wp2_with fail
    refine (HA.out w4 HB4.out).mono ?_
    rintro e wz ⟨rfl, hbz⟩
    have HBZ := Lib.hid (HB0.out.trans ((HB4.out.trans (hbz.mono HB4.out.size)).mono HB0.out.size))
    clear hbz
    go_wp2
    go_ret
    exact ⟨rfl, HBZ.out⟩
  subst hz
  have HGA := Lib.hid (HEA.out (by first | rfl | trivial))
  have HGB := Lib.hid (HEB.out (by first | rfl | trivial))
  clear HEA HEB
  have hn3 := HRA.out.2.1.n3
  have hm3 := HRB.out.2.1.n3
  obtain ⟨n, hn⟩ : ∃ n, n = a.mths.length := ⟨_, rfl⟩
  obtain ⟨m, hm⟩ : ∃ m, m = b.mths.length := ⟨_, rfl⟩
  rw [← hn] at hn3
  rw [← hm] at hm3
  have HN := Lib.hid hn
  have HM := Lib.hid hm
  simp only [← hn, ← hm] at HBA HBB HVA HVB HC7 HD7 HS
  clear hn hm
  go_wp2
  go_loopw [5] (fun v5 wr => ∃ i : Nat, i ≤ n ∧ v5 = .int .i64 i ∧ Below W0.heap.size W0 wr) (fun v5 _ => n - (intOf v5).toNat)
  case atStart => exact ⟨0, Nat.zero_le _, rfl, HB4.out⟩
  case round =>
    obtain ⟨i, hi, rfl, hbl⟩ := hrel
    have HB := Lib.hid hbl
    have e7 := (HBA.out.below hbl).cell 7 rfl
    clear hbl
    by_cases hlt : i < n
    case neg =>
      obtain rfl : n = i := by omega
      clear hlt
      go_wp2_with fail
      refine (HA.out wr HB.out).mono ?_
      rintro e wz ⟨rfl, hbz⟩
      have HBZ := Lib.hid (HB0.out.trans ((HB.out.trans (hbz.mono HB.out.size)).mono HB0.out.size))
      clear hbz
      go_wp2
      go_ret
      exact ⟨rfl, HBZ.out⟩
    have hil : i < a.mths.length := by have := HN.out; omega
    obtain ⟨x, hx⟩ : ∃ x, a.mths[i]? = some x := ⟨_, List.getElem?_eq_getElem hil⟩
    have HX := Lib.hid hx
    have HGX := Lib.hid (HGA.out x (List.mem_of_getElem? hx))
    clear hx hil
    have hi0 : (0 : Int) ≤ i := by omega
    have hin : (i : Int) < (n : Int) := by omega
    go_wp2
    clear e7
    go_loopw [6] (fun v6 wr => ∃ k : Nat, k ≤ m ∧ v6 = .int .i64 k ∧ Below W0.heap.size W0 wr) (fun v6 _ => m - (intOf v6).toNat)
    case atStart => exact ⟨0, Nat.zero_le _, rfl, HB.out⟩
    case round =>
      obtain ⟨k, hk, rfl, hbk⟩ := hrel
      have HBK := Lib.hid hbk
      have e7 := (HBA.out.below hbk).cell 7 rfl
      have f7 := (HBB.out.below hbk).cell 7 rfl
      clear hbk
      by_cases hlk : k < m
      case neg =>
        obtain rfl : m = k := by omega
        clear hlk e7
        go_wp2
        go_roundw
        case rel => exact ⟨i + 1, by omega, by go_num, HBK.out⟩
        case measure => simp [intOf]; omega
      have hkl : k < b.mths.length := by have := HM.out; omega
      obtain ⟨y, hy⟩ : ∃ y, b.mths[k]? = some y := ⟨_, List.getElem?_eq_getElem hkl⟩
      have HGY := Lib.hid (HGB.out y (List.mem_of_getElem? hy))
      have hk0 : (0 : Int) ≤ k := by omega
      have hkm : (k : Int) < (m : Int) := by omega
      obtain ⟨mb, o, mv, rfl, hv, _, hcl⟩ := HC7.out i x HX.out
      obtain ⟨nb, p, nv, rfl, hw, _, hdl⟩ := HD7.out k y hy
      have HVX := Lib.hid hv
      have HVY := Lib.hid hw
      obtain ⟨pv, cv, kv, rfl, ⟨po, pc, rfl⟩, ⟨co, cc, rfl⟩, ⟨ko, kc, rfl⟩⟩ := mth_shape hv
      obtain ⟨qv, dv, rv, rfl, ⟨qo, qc, rfl⟩, ⟨dd, dc, rfl⟩, ⟨ro, rc, rfl⟩⟩ := mth_shape hw
      have HSC : Hid (∀ W, Below W0.heap.size W0 W → W.cell? ⟨BA, 7, none⟩ = some (.slice (some ⟨mb, o, none⟩) n mc1) ∧ W.cell? ⟨BB, 7, none⟩ = some (.slice (some ⟨nb, p, none⟩) m mc2) ∧ W.cell? ⟨mb, o + i * 7, none⟩ = some (.string (S x.name)) ∧ W.cell? ⟨mb, o + i * 7 + 1, none⟩ = some (.slice po x.params.length pc) ∧ W.cell? ⟨mb, o + i * 7 + 2, none⟩ = some (.string (S x.res)) ∧ W.cell? ⟨mb, o + i * 7 + 3, none⟩ = some (.bool x.abs) ∧ W.cell? ⟨mb, o + i * 7 + 4, none⟩ = some (.int .i64 x.loc) ∧ W.cell? ⟨mb, o + i * 7 + 5, none⟩ = some (.slice co x.code.length cc) ∧ W.cell? ⟨mb, o + i * 7 + 6, none⟩ = some (.slice ko x.cats.length kc) ∧ W.cell? ⟨nb, p + k * 7, none⟩ = some (.string (S y.name)) ∧ W.cell? ⟨nb, p + k * 7 + 1, none⟩ = some (.slice qo y.params.length qc) ∧ W.cell? ⟨nb, p + k * 7 + 2, none⟩ = some (.string (S y.res)) ∧ W.cell? ⟨nb, p + k * 7 + 3, none⟩ = some (.bool y.abs) ∧ W.cell? ⟨nb, p + k * 7 + 4, none⟩ = some (.int .i64 y.loc) ∧ W.cell? ⟨nb, p + k * 7 + 5, none⟩ = some (.slice dd y.code.length dc) ∧ W.cell? ⟨nb, p + k * 7 + 6, none⟩ = some (.slice ro y.cats.length rc)) := Lib.hid (fun W hW => by
        have ho := Only.ofBelow (S := fun _ => False) hW
        exact ⟨(HBA.out.below hW).cell 7 rfl, (HBB.out.below hW).cell 7 rfl, ho.cell (a := ⟨mb, o + i * 7, none⟩) (hcl 0 _ rfl) id, ho.cell (a := ⟨mb, o + i * 7 + 1, none⟩) (hcl 1 _ rfl) id, ho.cell (a := ⟨mb, o + i * 7 + 2, none⟩) (hcl 2 _ rfl) id, ho.cell (a := ⟨mb, o + i * 7 + 3, none⟩) (hcl 3 _ rfl) id, ho.cell (a := ⟨mb, o + i * 7 + 4, none⟩) (hcl 4 _ rfl) id, ho.cell (a := ⟨mb, o + i * 7 + 5, none⟩) (hcl 5 _ rfl) id, ho.cell (a := ⟨mb, o + i * 7 + 6, none⟩) (hcl 6 _ rfl) id, ho.cell (a := ⟨nb, p + k * 7, none⟩) (hdl 0 _ rfl) id, ho.cell (a := ⟨nb, p + k * 7 + 1, none⟩) (hdl 1 _ rfl) id, ho.cell (a := ⟨nb, p + k * 7 + 2, none⟩) (hdl 2 _ rfl) id, ho.cell (a := ⟨nb, p + k * 7 + 3, none⟩) (hdl 3 _ rfl) id, ho.cell (a := ⟨nb, p + k * 7 + 4, none⟩) (hdl 4 _ rfl) id, ho.cell (a := ⟨nb, p + k * 7 + 5, none⟩) (hdl 5 _ rfl) id, ho.cell (a := ⟨nb, p + k * 7 + 6, none⟩) (hdl 6 _ rfl) id⟩)
      clear hv hw hcl hdl hy hkl
      go_upto_region 9 with fail
      clear e7 f7
      go_cut [7, 8] (fun s7 s8 wx => ∃ M N : Nat, s7 = .pointer (some ⟨M, 0, none⟩) ∧ s8 = .pointer (some ⟨N, 0, none⟩) ∧ Box wx M #[.string (S x.name), .slice po x.params.length pc, .string (S x.res), .bool x.abs, .int .i64 x.loc, .slice co x.code.length cc, .slice ko x.cats.length kc] 33 ∧ Box wx N #[.string (S y.name), .slice qo y.params.length qc, .string (S y.res), .bool y.abs, .int .i64 y.loc, .slice dd y.code.length dc, .slice ro y.cats.length rc] 33 ∧ Below W0.heap.size W0 wx)
      case first =>
        have hB := HBK.out
        have hsz := hB.size
        obtain ⟨q7, r7, x0, x1, x2, x3, x4, x5, x6, y0, y1, y2, y3, y4, y5, y6⟩ := HSC.out _ hB
        first
        | (go_region_held (fun W => W.cell? ⟨BA, 7, none⟩ = some (.slice (some ⟨mb, o, none⟩) n mc1) ∧ W.cell? ⟨BB, 7, none⟩ = some (.slice (some ⟨nb, p, none⟩) m mc2) ∧ W.cell? ⟨mb, o + i * 7, none⟩ = some (.string (S x.name)) ∧ W.cell? ⟨mb, o + i * 7 + 1, none⟩ = some (.slice po x.params.length pc) ∧ W.cell? ⟨mb, o + i * 7 + 2, none⟩ = some (.string (S x.res)) ∧ W.cell? ⟨mb, o + i * 7 + 3, none⟩ = some (.bool x.abs) ∧ W.cell? ⟨mb, o + i * 7 + 4, none⟩ = some (.int .i64 x.loc) ∧ W.cell? ⟨mb, o + i * 7 + 5, none⟩ = some (.slice co x.code.length cc) ∧ W.cell? ⟨mb, o + i * 7 + 6, none⟩ = some (.slice ko x.cats.length kc) ∧ W.cell? ⟨nb, p + k * 7, none⟩ = some (.string (S y.name)) ∧ W.cell? ⟨nb, p + k * 7 + 1, none⟩ = some (.slice qo y.params.length qc) ∧ W.cell? ⟨nb, p + k * 7 + 2, none⟩ = some (.string (S y.res)) ∧ W.cell? ⟨nb, p + k * 7 + 3, none⟩ = some (.bool y.abs) ∧ W.cell? ⟨nb, p + k * 7 + 4, none⟩ = some (.int .i64 y.loc) ∧ W.cell? ⟨nb, p + k * 7 + 5, none⟩ = some (.slice dd y.code.length dc) ∧ W.cell? ⟨nb, p + k * 7 + 6, none⟩ = some (.slice ro y.cats.length rc)) ((refine HSC.out _ ?_; (repeat (first | (with_reducible exact Below.refl _ _) | (with_reducible assumption) | (with_reducible (apply below_step; rotate_left; assumption)) | (with_reducible refine below_drew ?_) | (with_reducible refine below_alloc ?_ _) | ((with_reducible refine Below.setCell ?_ ?_ _); rotate_left; (focus (first | omega | (simp; omega); done))))))) (fail))
        | fail
        all_goals
          go_wp2_with fail
          go_meet
          first
          | exact ⟨wr.heap.size, wr.heap.size + 1, rfl, rfl, (Box.new wr #[.string (S x.name), .slice po x.params.length pc, .string (S x.res), .bool x.abs, .int .i64 x.loc, .slice co x.code.length cc, .slice ko x.cats.length kc] 33).below (below_drew (below_alloc (Below.refl _ _) _)), (by have q := (Box.new (wr.alloc (.cells #[.string (S x.name), .slice po x.params.length pc, .string (S x.res), .bool x.abs, .int .i64 x.loc, .slice co x.code.length cc, .slice ko x.cats.length kc] 33)) #[.string (S y.name), .slice qo y.params.length qc, .string (S y.res), .bool y.abs, .int .i64 y.loc, .slice dd y.code.length dc, .slice ro y.cats.length rc] 33).below (below_drew (Below.refl _ _)); simpa using q), below_drew (below_alloc (below_alloc hB _) _)⟩
          | exact ⟨wr.heap.size + 1, wr.heap.size, rfl, rfl, (by have q := (Box.new (wr.alloc (.cells #[.string (S y.name), .slice qo y.params.length qc, .string (S y.res), .bool y.abs, .int .i64 y.loc, .slice dd y.code.length dc, .slice ro y.cats.length rc] 33)) #[.string (S x.name), .slice po x.params.length pc, .string (S x.res), .bool x.abs, .int .i64 x.loc, .slice co x.code.length cc, .slice ko x.cats.length kc] 33).below (below_drew (Below.refl _ _)); simpa using q), (Box.new wr #[.string (S y.name), .slice qo y.params.length qc, .string (S y.res), .bool y.abs, .int .i64 y.loc, .slice dd y.code.length dc, .slice ro y.cats.length rc] 33).below (below_drew (below_alloc (Below.refl _ _) _)), below_drew (below_alloc (below_alloc hB _) _)⟩
      case rest =>
        obtain ⟨M, N, rfl, rfl, bm, bn, hbx⟩ := hcut
        obtain ⟨wx, rfl⟩ : ∃ x, x = wc := ⟨_, rfl⟩
        have HBX := Lib.hid hbx
        have HSX : Hid (∀ W, Below wx.heap.size wx W → Calls Tryz.prog 16 #[.agg #[.string (S x.name), .slice po x.params.length pc, .string (S x.res), .bool x.abs, .int .i64 x.loc, .slice co x.code.length cc, .slice ko x.cats.length kc]] W (SaidS (signB x) W)) := Lib.hid (fun W hW => csign_any x _ W (MthR.st.keep HVX.out (Only.ofBelow (S := fun _ => False) (HBX.out.trans (hW.mono HBX.out.size))) (fun _ _ => id)) HGX.out.brief)
        have HSY : Hid (∀ W, Below wx.heap.size wx W → Calls Tryz.prog 16 #[.agg #[.string (S y.name), .slice qo y.params.length qc, .string (S y.res), .bool y.abs, .int .i64 y.loc, .slice dd y.code.length dc, .slice ro y.cats.length rc]] W (SaidS (signB y) W)) := Lib.hid (fun W hW => csign_any y _ W (MthR.st.keep HVY.out (Only.ofBelow (S := fun _ => False) (HBX.out.trans (hW.mono HBX.out.size))) (fun _ _ => id)) HGY.out.brief)
        obtain ⟨px, _, _, hpxe, hpx, _⟩ := HVX.out
        obtain ⟨py, _, _, hpye, hpy, _⟩ := HVY.out
        simp at hpxe hpye
        rw [← hpxe.1] at hpx
        rw [← hpye.1] at hpy
        have HPX := Lib.hid (Src.elem (StrR.st.below hpx hbx))
        have HPY := Lib.hid (Src.elem (StrR.st.below hpy hbx))
        have HI : Hid (signB x = signB y ↔ x.res = y.res ∧ x.params = y.params) := Lib.hid (signB_inj x y HGX.out HGY.out)
        have hl1 : x.params.length ≤ 32 := HGX.out.nums.1
        have hl2 : y.params.length ≤ 32 := HGY.out.nums.1
        clear hpxe hpye hpx hpy
        unfold SaidS at HSX HSY
        obtain ⟨n1, hn1⟩ : ∃ n, n = x.params.length := ⟨_, rfl⟩
        obtain ⟨n2, hn2⟩ : ∃ n, n = y.params.length := ⟨_, rfl⟩
        rw [← hn1] at bm hl1
        rw [← hn2] at bn hl2
        simp only [← hn1] at HSX HPX
        simp only [← hn2] at HSY HPY
        have HN1 := Lib.hid hn1
        have HN2 := Lib.hid hn2
        have HBM := Lib.hid bm
        have HBN := Lib.hid bn
        have c1 := bm.cell 1 rfl
        have c2 := bm.cell 2 rfl
        have d1 := bn.cell 1 rfl
        have d2 := bn.cell 2 rfl
        have e0 := S_toList x.res
        have e1 := S_toList y.res
        clear bm bn hbx hn1 hn2
        go_upto_region 10 with fail
        go_cut [9] (fun s9 wy => ∃ q : Bool, s9 = .bool q ∧ q = ((x.res == y.res) && decide (n1 = n2)) ∧ wy = wx)
        case first =>
          cases hr : (x.res == y.res)
          · go_wp2_with fail
            go_meet
            exact ⟨false, rfl, by rw [hr]; rfl, rfl⟩
          · by_cases hnm : n1 = n2
            · have hq : ((n1 : Int) == (n2 : Int)) = true := by rw [beq_iff_eq]; omega
              have HNM := Lib.hid hnm
              clear hnm
              go_wp2_with fail
              go_meet
              exact ⟨true, rfl, by rw [hr, decide_eq_true HNM.out]; rfl, rfl⟩
            · have hq : ((n1 : Int) == (n2 : Int)) = false := by rw [beq_eq_false_iff_ne]; omega
              have HNM := Lib.hid hnm
              clear hnm
              go_wp2_with fail
              go_meet
              exact ⟨false, rfl, by rw [hr, decide_eq_false HNM.out]; rfl, rfl⟩
        case rest =>
          obtain ⟨Q0, rfl, hQ0, hwx⟩ := hcut
          obtain rfl : wx = wc := hwx.symm
          have HQ0 := Lib.hid hQ0
          have HST : Hid (∀ W, Below wx.heap.size wx W → W.cell? ⟨M, 0, none⟩ = some (.string (S x.name)) ∧ W.cell? ⟨M, 1, none⟩ = some (.slice po n1 pc) ∧ W.cell? ⟨M, 2, none⟩ = some (.string (S x.res)) ∧ W.cell? ⟨M, 3, none⟩ = some (.bool x.abs) ∧ W.cell? ⟨M, 4, none⟩ = some (.int .i64 x.loc) ∧ W.cell? ⟨M, 5, none⟩ = some (.slice co x.code.length cc) ∧ W.cell? ⟨M, 6, none⟩ = some (.slice ko x.cats.length kc) ∧ W.cell? ⟨N, 0, none⟩ = some (.string (S y.name)) ∧ W.cell? ⟨N, 1, none⟩ = some (.slice qo n2 qc) ∧ W.cell? ⟨N, 2, none⟩ = some (.string (S y.res)) ∧ W.cell? ⟨N, 3, none⟩ = some (.bool y.abs) ∧ W.cell? ⟨N, 4, none⟩ = some (.int .i64 y.loc) ∧ W.cell? ⟨N, 5, none⟩ = some (.slice dd y.code.length dc) ∧ W.cell? ⟨N, 6, none⟩ = some (.slice ro y.cats.length rc)) := Lib.hid (fun W hW => by
            have hx := HBM.out.below hW
            have hy := HBN.out.below hW
            exact ⟨hx.cell 0 rfl, hx.cell 1 rfl, hx.cell 2 rfl, hx.cell 3 rfl, hx.cell 4 rfl, hx.cell 5 rfl, hx.cell 6 rfl, hy.cell 0 rfl, hy.cell 1 rfl, hy.cell 2 rfl, hy.cell 3 rfl, hy.cell 4 rfl, hy.cell 5 rfl, hy.cell 6 rfl⟩)
          clear c1 c2 d1 d2 e0 e1 hQ0
          go_wp2
          go_loopw [9, 10] (fun v9 v10 wr => ∃ (j : Nat) (q : Bool), j ≤ n1 ∧ v10 = .int .i64 j ∧ v9 = .bool q ∧ q = (Q0 && pairT strEq x.params y.params j) ∧ Below wx.heap.size wx wr) (fun _ v10 _ => n1 - (intOf v10).toNat)
          case atStart => exact ⟨0, Q0, Nat.zero_le _, rfl, rfl, by simp [pairT], Below.refl _ _⟩
          case round =>
            obtain ⟨j, q, hj, rfl, rfl, hq, hbj⟩ := hrel
            have HQ := Lib.hid hq
            have HBJ := Lib.hid hbj
            have m1 := (HBM.out.below hbj).cell 1 rfl
            have k1 := (HBN.out.below hbj).cell 1 rfl
            have hj0 : (0 : Int) ≤ j := by omega
            clear hq hbj
            by_cases hc : q = true ∧ j < n1
            · obtain ⟨rfl, hlj⟩ := hc
              have h1 := HQ.out
              simp only [Bool.true_eq, Bool.and_eq_true] at h1
              have h0 := HQ0.out
              rw [h1.1] at h0
              simp only [Bool.true_eq, Bool.and_eq_true, decide_eq_true_eq] at h0
              have hnm := h0.2
              have hjx : j < x.params.length := by have := HN1.out; omega
              have hjy : j < y.params.length := by have := HN2.out; omega
              obtain ⟨s, hs⟩ : ∃ s, x.params[j]? = some s := ⟨_, List.getElem?_eq_getElem hjx⟩
              obtain ⟨t, ht⟩ : ∃ t, y.params[j]? = some t := ⟨_, List.getElem?_eq_getElem hjy⟩
              have hoW := Only.ofBelow (S := fun _ => False) HBJ.out
              obtain ⟨b1, o1, ux, rfl, hux, _, hcx⟩ := HPX.out j s hs
              obtain ⟨b2, o2, uy, rfl, huy, _, hcy⟩ := HPY.out j t ht
              obtain rfl := hux
              obtain rfl := huy
              have dx0 := hoW.cell (a := ⟨b1, o1 + j, none⟩) (by have q := hcx 0 _ rfl; rw [Nat.mul_one] at q; exact q) id
              have dy0 := hoW.cell (a := ⟨b2, o2 + j, none⟩) (by have q := hcy 0 _ rfl; rw [Nat.mul_one] at q; exact q) id
              have e0 := S_toList s
              have e1 := S_toList t
              have HPS := Lib.hid (pairT_succ strEq x.params y.params j s t hs ht)
              rw [h1.2, Bool.true_and] at HPS
              have HQT := Lib.hid h1.1
              have hjn : (j : Int) < (n1 : Int) := by omega
              have hjm : (j : Int) < (n2 : Int) := by omega
              clear hnm hs ht hjx hjy hoW hcx hcy h1 h0
              have hpe : strEq s t = (s == t) := rfl
              rw [hpe] at HPS
              clear hpe
              generalize hp : (s == t) = p at HPS
              cases p
              all_goals
                go_wp2_with (go_quiet (fail))
                go_roundw
                case rel => exact ⟨j + 1, _, by omega, by go_num, rfl, by rw [HPS.out, HQT.out]; rfl, below_quiet HBJ.out _⟩
                case measure => simp [intOf]; omega
            · have HF : Hid ((signB x == signB y) = q) := Lib.hid (by
                have hfin : q = (Q0 && (x.params.zip y.params).all fun z => strEq z.1 z.2) := by
                  cases q with
                  | false =>
                    cases hQ : Q0 with
                    | false => rfl
                    | true =>
                      have h1 := HQ.out
                      rw [hQ, Bool.true_and] at h1
                      rw [Bool.true_and, pairT_le strEq x.params y.params j h1.symm]
                  | true =>
                    have hjn : j = n1 := by have : ¬ j < n1 := fun h => hc ⟨rfl, h⟩; omega
                    have h1 := HQ.out
                    unfold pairT at h1
                    rw [List.take_of_length_le (by rw [List.length_zip, ← HN1.out]; omega)] at h1
                    exact h1
                have hsam : (decide (n1 = n2) && (x.params.zip y.params).all fun z => strEq z.1 z.2) = decide (x.params = y.params) := by
                  rw [HN1.out, HN2.out]
                  exact samB_str x.params y.params
                rw [hfin, HQ0.out, Bool.and_assoc, hsam, Bool.eq_iff_iff]
                simp only [beq_iff_eq, Bool.and_eq_true, decide_eq_true_eq]
                exact HI.out)
              have h2 : q = false ∨ (q = true ∧ n1 = j) := by
                cases q with
                | false => exact Or.inl rfl
                | true => exact Or.inr ⟨rfl, by have : ¬ j < n1 := fun h => hc ⟨rfl, h⟩; omega⟩
              clear HQ hc
              generalize signB x = gx at HSX HF HI
              generalize signB y = gy at HSY HF HI
              clear HI
              have e0 := S_toList gx
              have e1 := S_toList gy
              rcases h2 with rfl | ⟨rfl, rfl⟩
              all_goals
                go_upto_region 15 with fail
                clear m1 k1
                have he := HF.out
                have hB := HBJ.out
                obtain ⟨x0, x1, x2, x3, x4, x5, x6, y0, y1, y2, y3, y4, y5, y6⟩ := HST.out _ hB
                first
                | (go_region_held (fun W => W.cell? ⟨M, 0, none⟩ = some (.string (S x.name)) ∧ W.cell? ⟨M, 1, none⟩ = some (.slice po n1 pc) ∧ W.cell? ⟨M, 2, none⟩ = some (.string (S x.res)) ∧ W.cell? ⟨M, 3, none⟩ = some (.bool x.abs) ∧ W.cell? ⟨M, 4, none⟩ = some (.int .i64 x.loc) ∧ W.cell? ⟨M, 5, none⟩ = some (.slice co x.code.length cc) ∧ W.cell? ⟨M, 6, none⟩ = some (.slice ko x.cats.length kc) ∧ W.cell? ⟨N, 0, none⟩ = some (.string (S y.name)) ∧ W.cell? ⟨N, 1, none⟩ = some (.slice qo n2 qc) ∧ W.cell? ⟨N, 2, none⟩ = some (.string (S y.res)) ∧ W.cell? ⟨N, 3, none⟩ = some (.bool y.abs) ∧ W.cell? ⟨N, 4, none⟩ = some (.int .i64 y.loc) ∧ W.cell? ⟨N, 5, none⟩ = some (.slice dd y.code.length dc) ∧ W.cell? ⟨N, 6, none⟩ = some (.slice ro y.cats.length rc)) ((refine HST.out _ ?_; (repeat (first | (with_reducible exact Below.refl _ _) | (with_reducible assumption) | (with_reducible (apply below_step; rotate_left; assumption)) | (with_reducible refine below_drew ?_)))))
                    (first
                     | (go_at_call 16; (with_reducible refine (HSX.out _ ?_).mono ?_); (focus ((repeat (first | (with_reducible exact Below.refl _ _) | (with_reducible assumption) | (with_reducible (apply below_step; rotate_left; assumption)) | (with_reducible refine below_drew ?_))); done)); rintro e wx1 ⟨rfl, bx1⟩)
                     | (go_at_call 16; (with_reducible refine (HSY.out _ ?_).mono ?_); (focus ((repeat (first | (with_reducible exact Below.refl _ _) | (with_reducible assumption) | (with_reducible (apply below_step; rotate_left; assumption)) | (with_reducible refine below_drew ?_))); done)); rintro e wx2 ⟨rfl, bx2⟩)))
                | fail
                all_goals
                  have hbE : Below wx.heap.size wx wx2 := by (repeat (first | (with_reducible exact Below.refl _ _) | (with_reducible assumption) | (with_reducible (apply below_step; rotate_left; assumption)) | (with_reducible refine below_drew ?_)))
                  have HBE := Lib.hid (HBX.out.trans (hbE.mono HBX.out.size))
                  clear hbE
                  go_wp2
                  go_roundw
                  case rel => exact ⟨k + 1, by omega, by go_num, HBE.out⟩
                  case measure => simp [intOf]; omega
theorem classSigns_all (u : Value) (a : Cls) (v : Value) (b : Cls) (w : World) (hT : CT w) (hu : ClsR Anyw w a u) (ha : a.real) (hv : ClsR Anyw w b v) (hb : b.real) :
    Calls Tryz.prog 4 #[u, v] w (Said true w) := classSigns_any u v a b w hT hu hv ha hb
end Go.Proofs.YtpincofjopmaaaaGreatDoor
