/-
  The walk of the law ClassSame: whether two classes are the same, and what methods are called with, is as the document says.
  Conditions: the tables hold what they hold at the start; the signatures of the first class's methods are brief.
-/
import Derived.Test.YtpincofjopmaaaaGreatDoorM61
import Derived.Test.YtpincofjopmaaaaGreatDoorM41
import Derived.Test.YtpincofjopmaaaaGreatDoorM40
import Derived.Test.YtpincofjopmaaaaGreatDoorM32
import Derived.Deep.RegionHeld
import Derived.Deep.DrawnRows
namespace Go.Proofs.YtpincofjopmaaaaGreatDoor
open Go.RowKit
set_option maxHeartbeats 4000000 in
set_option maxRecDepth 100000 in
theorem classSame_any (u v : Value) (a b : Cls) (w : World) (hT : CT w) (hu : ClsR Anyw w a u) (hv : ClsR Anyw w b v) (ha : a.real) (hb : b.real) (hbr : ∀ m ∈ a.mths, m.brief) :
    Calls Tryz.prog 3 #[u, v] w (Said true w) := by
  have HT := Lib.hid hT
  have hu0 := hu
  have hv0 := hv
  obtain ⟨lv1, fv1, mv1, rfl, hp1, hc1, hk1⟩ := hu
  obtain ⟨lo1, lc1, rfl⟩ := hp1.shape
  obtain ⟨fo1, fc1, rfl⟩ := hc1.shape
  obtain ⟨mo1, mc1, rfl⟩ := hk1.shape
  obtain ⟨lv2, fv2, mv2, rfl, hp2, hc2, hk2⟩ := hv
  obtain ⟨lo2, lc2, rfl⟩ := hp2.shape
  obtain ⟨fo2, fc2, rfl⟩ := hc2.shape
  obtain ⟨mo2, mc2, rfl⟩ := hk2.shape
  clear hp1 hc1 hp2 hc2 hk2
  have hbA : Below w.heap.size w (w.alloc (.cells #[.string (S a.name), .string (S a.sup), .slice lo1 a.like.length lc1, .bool a.itf, .bool a.abs, .bool a.fin, .slice fo1 a.flds.length fc1, .slice mo1 a.mths.length mc1] 26)) := (Below.refl _ w).alloc (Nat.le_refl _) _
  have hb0 : Below w.heap.size w ((w.alloc (.cells #[.string (S a.name), .string (S a.sup), .slice lo1 a.like.length lc1, .bool a.itf, .bool a.abs, .bool a.fin, .slice fo1 a.flds.length fc1, .slice mo1 a.mths.length mc1] 26)).alloc (.cells #[.string (S b.name), .string (S b.sup), .slice lo2 b.like.length lc2, .bool b.itf, .bool b.abs, .bool b.fin, .slice fo2 b.flds.length fc2, .slice mo2 b.mths.length mc2] 26)) := below_alloc hbA _
  have HB0 := Lib.hid hb0
  have HBA := Lib.hid ((Box.new w #[.string (S a.name), .string (S a.sup), .slice lo1 a.like.length lc1, .bool a.itf, .bool a.abs, .bool a.fin, .slice fo1 a.flds.length fc1, .slice mo1 a.mths.length mc1] 26).below (w' := ((w.alloc (.cells #[.string (S a.name), .string (S a.sup), .slice lo1 a.like.length lc1, .bool a.itf, .bool a.abs, .bool a.fin, .slice fo1 a.flds.length fc1, .slice mo1 a.mths.length mc1] 26)).alloc (.cells #[.string (S b.name), .string (S b.sup), .slice lo2 b.like.length lc2, .bool b.itf, .bool b.abs, .bool b.fin, .slice fo2 b.flds.length fc2, .slice mo2 b.mths.length mc2] 26))) ((Below.refl _ _).alloc (Nat.le_refl _) _))
  have HBB := Lib.hid (show Box ((w.alloc (.cells #[.string (S a.name), .string (S a.sup), .slice lo1 a.like.length lc1, .bool a.itf, .bool a.abs, .bool a.fin, .slice fo1 a.flds.length fc1, .slice mo1 a.mths.length mc1] 26)).alloc (.cells #[.string (S b.name), .string (S b.sup), .slice lo2 b.like.length lc2, .bool b.itf, .bool b.abs, .bool b.fin, .slice fo2 b.flds.length fc2, .slice mo2 b.mths.length mc2] 26)) (w.heap.size + 1) #[.string (S b.name), .string (S b.sup), .slice lo2 b.like.length lc2, .bool b.itf, .bool b.abs, .bool b.fin, .slice fo2 b.flds.length fc2, .slice mo2 b.mths.length mc2] 26 from by have q := Box.new (w.alloc (.cells #[.string (S a.name), .string (S a.sup), .slice lo1 a.like.length lc1, .bool a.itf, .bool a.abs, .bool a.fin, .slice fo1 a.flds.length fc1, .slice mo1 a.mths.length mc1] 26)) #[.string (S b.name), .string (S b.sup), .slice lo2 b.like.length lc2, .bool b.itf, .bool b.abs, .bool b.fin, .slice fo2 b.flds.length fc2, .slice mo2 b.mths.length mc2] 26; simpa using q)
  have HVA : Hid (ClsR Anyw ((w.alloc (.cells #[.string (S a.name), .string (S a.sup), .slice lo1 a.like.length lc1, .bool a.itf, .bool a.abs, .bool a.fin, .slice fo1 a.flds.length fc1, .slice mo1 a.mths.length mc1] 26)).alloc (.cells #[.string (S b.name), .string (S b.sup), .slice lo2 b.like.length lc2, .bool b.itf, .bool b.abs, .bool b.fin, .slice fo2 b.flds.length fc2, .slice mo2 b.mths.length mc2] 26)) a (.agg #[.string (S a.name), .string (S a.sup), .slice lo1 a.like.length lc1, .bool a.itf, .bool a.abs, .bool a.fin, .slice fo1 a.flds.length fc1, .slice mo1 a.mths.length mc1])) := Lib.hid (ClsR.st.keep hu0 (Only.ofBelow (S := fun _ => False) hb0) (fun _ _ => id))
  have HVB : Hid (ClsR Anyw ((w.alloc (.cells #[.string (S a.name), .string (S a.sup), .slice lo1 a.like.length lc1, .bool a.itf, .bool a.abs, .bool a.fin, .slice fo1 a.flds.length fc1, .slice mo1 a.mths.length mc1] 26)).alloc (.cells #[.string (S b.name), .string (S b.sup), .slice lo2 b.like.length lc2, .bool b.itf, .bool b.abs, .bool b.fin, .slice fo2 b.flds.length fc2, .slice mo2 b.mths.length mc2] 26)) b (.agg #[.string (S b.name), .string (S b.sup), .slice lo2 b.like.length lc2, .bool b.itf, .bool b.abs, .bool b.fin, .slice fo2 b.flds.length fc2, .slice mo2 b.mths.length mc2])) := Lib.hid (ClsR.st.keep hv0 (Only.ofBelow (S := fun _ => False) hb0) (fun _ _ => id))
  have HC7 := Lib.hid (Src.elem (MthR.st.below hk1 hb0))
  have HBR := Lib.hid hbr
  have HRA := Lib.hid ha
  have HRB := Lib.hid hb
  clear hT hu0 hv0 hk1 hbA hb0 ha hb hbr
  go_enter Tryz.func3, Tryz.ntmps3
  go_upto_region 1 with fail
  generalize ((w.alloc (.cells #[.string (S a.name), .string (S a.sup), .slice lo1 a.like.length lc1, .bool a.itf, .bool a.abs, .bool a.fin, .slice fo1 a.flds.length fc1, .slice mo1 a.mths.length mc1] 26)).alloc (.cells #[.string (S b.name), .string (S b.sup), .slice lo2 b.like.length lc2, .bool b.itf, .bool b.abs, .bool b.fin, .slice fo2 b.flds.length fc2, .slice mo2 b.mths.length mc2] 26)) = W0 at HB0 HBA HBB HVA HVB HC7 ⊢
  generalize w.heap.size + 1 = BB at HBB ⊢
  obtain ⟨BA, hBA⟩ : ∃ B, B = w.heap.size := ⟨_, rfl⟩
  rw [← hBA] at HBA ⊢
  clear hBA
  have HS : Hid (∀ W, Below W0.heap.size W0 W → W.cell? ⟨BA, 0, none⟩ = some (.string (S a.name)) ∧ W.cell? ⟨BA, 1, none⟩ = some (.string (S a.sup)) ∧ W.cell? ⟨BA, 2, none⟩ = some (.slice lo1 a.like.length lc1) ∧ W.cell? ⟨BA, 3, none⟩ = some (.bool a.itf) ∧ W.cell? ⟨BA, 4, none⟩ = some (.bool a.abs) ∧ W.cell? ⟨BA, 5, none⟩ = some (.bool a.fin) ∧ W.cell? ⟨BA, 6, none⟩ = some (.slice fo1 a.flds.length fc1) ∧ W.cell? ⟨BA, 7, none⟩ = some (.slice mo1 a.mths.length mc1) ∧ W.cell? ⟨BB, 0, none⟩ = some (.string (S b.name)) ∧ W.cell? ⟨BB, 1, none⟩ = some (.string (S b.sup)) ∧ W.cell? ⟨BB, 2, none⟩ = some (.slice lo2 b.like.length lc2) ∧ W.cell? ⟨BB, 3, none⟩ = some (.bool b.itf) ∧ W.cell? ⟨BB, 4, none⟩ = some (.bool b.abs) ∧ W.cell? ⟨BB, 5, none⟩ = some (.bool b.fin) ∧ W.cell? ⟨BB, 6, none⟩ = some (.slice fo2 b.flds.length fc2) ∧ W.cell? ⟨BB, 7, none⟩ = some (.slice mo2 b.mths.length mc2)) := Lib.hid (fun W hW => by
    have hx := HBA.out.below hW
    have hy := HBB.out.below hW
    exact ⟨hx.cell 0 rfl, hx.cell 1 rfl, hx.cell 2 rfl, hx.cell 3 rfl, hx.cell 4 rfl, hx.cell 5 rfl, hx.cell 6 rfl, hx.cell 7 rfl, hy.cell 0 rfl, hy.cell 1 rfl, hy.cell 2 rfl, hy.cell 3 rfl, hy.cell 4 rfl, hy.cell 5 rfl, hy.cell 6 rfl, hy.cell 7 rfl⟩)
  have HFA : Hid (∀ W, Below W0.heap.size W0 W → Calls Tryz.prog 14 #[.agg #[.string (S a.name), .string (S a.sup), .slice lo1 a.like.length lc1, .bool a.itf, .bool a.abs, .bool a.fin, .slice fo1 a.flds.length fc1, .slice mo1 a.mths.length mc1]] W (Said (!a.great) W)) := Lib.hid (fun W hW => cfew_any (A := Anyw) a _ W (ClsR.st.keep HVA.out (Only.ofBelow (S := fun _ => False) hW) (fun _ _ => id)) HRA.out.2.1)
  have HFB : Hid (∀ W, Below W0.heap.size W0 W → Calls Tryz.prog 14 #[.agg #[.string (S b.name), .string (S b.sup), .slice lo2 b.like.length lc2, .bool b.itf, .bool b.abs, .bool b.fin, .slice fo2 b.flds.length fc2, .slice mo2 b.mths.length mc2]] W (Said (!b.great) W)) := Lib.hid (fun W hW => cfew_any (A := Anyw) b _ W (ClsR.st.keep HVB.out (Only.ofBelow (S := fun _ => False) hW) (fun _ _ => id)) HRB.out.2.1)
  have HA : Hid (∀ W, Below W0.heap.size W0 W → Calls Tryz.prog 15 #[] W (Said true W)) := Lib.hid (fun W hW => awake5_any W (HT.out.keep (HB0.out.trans (hW.mono HB0.out.size))))
  have HSM : Hid (∀ W, Below W0.heap.size W0 W → Calls Tryz.prog 18 #[.agg #[.string (S a.name), .string (S a.sup), .slice lo1 a.like.length lc1, .bool a.itf, .bool a.abs, .bool a.fin, .slice fo1 a.flds.length fc1, .slice mo1 a.mths.length mc1], .agg #[.string (S b.name), .string (S b.sup), .slice lo2 b.like.length lc2, .bool b.itf, .bool b.abs, .bool b.fin, .slice fo2 b.flds.length fc2, .slice mo2 b.mths.length mc2]] W (Said (Cls.eqB a b) W)) := Lib.hid (fun W hW => csame_any a b _ _ W (ClsR.st.keep HVA.out (Only.ofBelow (S := fun _ => False) hW) (fun _ _ => id)) (ClsR.st.keep HVB.out (Only.ofBelow (S := fun _ => False) hW) (fun _ _ => id)) HRA.out.2.1 HRB.out.2.1)
  have HSR : Hid (∀ W, Below W0.heap.size W0 W → Calls Tryz.prog 19 #[.agg #[.string (S a.name), .string (S a.sup), .slice lo1 a.like.length lc1, .bool a.itf, .bool a.abs, .bool a.fin, .slice fo1 a.flds.length fc1, .slice mo1 a.mths.length mc1], .agg #[.string (S b.name), .string (S b.sup), .slice lo2 b.like.length lc2, .bool b.itf, .bool b.abs, .bool b.fin, .slice fo2 b.flds.length fc2, .slice mo2 b.mths.length mc2]] W (Said (Cls.eqB a b) W)) := Lib.hid (fun W hW => refsame5_any a b _ _ W (ClsR.st.keep HVA.out (Only.ofBelow (S := fun _ => False) hW) (fun _ _ => id)) (ClsR.st.keep HVB.out (Only.ofBelow (S := fun _ => False) hW) (fun _ _ => id)) HRA.out.2.1 HRB.out.2.1)
  have HSS : Hid (∀ W, Below W0.heap.size W0 W → Calls Tryz.prog 18 #[.agg #[.string (S a.name), .string (S a.sup), .slice lo1 a.like.length lc1, .bool a.itf, .bool a.abs, .bool a.fin, .slice fo1 a.flds.length fc1, .slice mo1 a.mths.length mc1], .agg #[.string (S a.name), .string (S a.sup), .slice lo1 a.like.length lc1, .bool a.itf, .bool a.abs, .bool a.fin, .slice fo1 a.flds.length fc1, .slice mo1 a.mths.length mc1]] W (Said true W)) := Lib.hid (fun W hW => by have q := csame_any a a _ _ W (ClsR.st.keep HVA.out (Only.ofBelow (S := fun _ => False) hW) (fun _ _ => id)) (ClsR.st.keep HVA.out (Only.ofBelow (S := fun _ => False) hW) (fun _ _ => id)) HRA.out.2.1 HRA.out.2.1; rw [cls_refl] at q; exact q)
  generalize Cls.eqB a b = R at HSM HSR
  have hg1 : Hid True := Lib.hid trivial
  clear hg1
  obtain ⟨c0, c1, c2, c3, c4, c5, c6, c7, d0, d1, d2, d3, d4, d5, d6, d7⟩ := HS.out W0 (Below.refl _ W0)
  go_wp2_with fail
  refine (HFA.out W0 (Below.refl _ W0)).mono ?_
  rintro e w1 ⟨rfl, hb1⟩
  clear HFA c0 c1 c2 c3 c4 c5 c6 c7 d0 d1 d2 d3 d4 d5 d6 d7
  have HB1 := Lib.hid hb1
  clear hb1
  generalize a.great = g1 at ⊢
  cases g1
  case true =>
    go_wp2_with fail
    refine (HA.out w1 HB1.out).mono ?_
    rintro e w2 ⟨rfl, hb2⟩
    have HB2 := Lib.hid (HB0.out.trans ((HB1.out.trans (hb2.mono HB1.out.size)).mono HB0.out.size))
    clear hb2
    go_wp2
    go_ret
    exact ⟨rfl, HB2.out⟩
  obtain ⟨c0, c1, c2, c3, c4, c5, c6, c7, d0, d1, d2, d3, d4, d5, d6, d7⟩ := HS.out w1 (HB1.out)
  go_wp2_with fail
  refine (HFB.out w1 HB1.out).mono ?_
  rintro e w2 ⟨rfl, hb2⟩
  clear HFB c0 c1 c2 c3 c4 c5 c6 c7 d0 d1 d2 d3 d4 d5 d6 d7
  have HB2 := Lib.hid (HB1.out.trans (hb2.mono HB1.out.size))
  clear hb2 HB1
  generalize b.great = g2 at ⊢
  cases g2
  case true =>
    go_wp2_with fail
    refine (HA.out w2 HB2.out).mono ?_
    rintro e w3 ⟨rfl, hb3⟩
    have HB3 := Lib.hid (HB0.out.trans ((HB2.out.trans (hb3.mono HB2.out.size)).mono HB0.out.size))
    clear hb3
    go_wp2
    go_ret
    exact ⟨rfl, HB3.out⟩
  have hn3 := HRA.out.2.1.n3
  obtain ⟨n, hn⟩ : ∃ n, n = a.mths.length := ⟨_, rfl⟩
  rw [← hn] at hn3
  have HN := Lib.hid hn
  simp only [← hn] at HBA HVA HC7 HS HSM HSR HSS
  clear hn
  go_wp2
  go_loopw [5] (fun v5 wr => ∃ k : Nat, k ≤ n ∧ v5 = .int .i64 k ∧ Below W0.heap.size W0 wr) (fun v5 _ => n - (intOf v5).toNat)
  case atStart => exact ⟨0, Nat.zero_le _, rfl, HB2.out⟩
  case round =>
    obtain ⟨k, hk, rfl, hbl⟩ := hrel
    have HB := Lib.hid hbl
    have e7 := (HBA.out.below hbl).cell 7 rfl
    clear hbl
    by_cases hlt : k < n
    · have hkl : k < a.mths.length := by have := HN.out; omega
      obtain ⟨x, hx⟩ : ∃ x, a.mths[k]? = some x := ⟨_, List.getElem?_eq_getElem hkl⟩
      obtain ⟨mb, o, mv, rfl, hv, _, hcl⟩ := HC7.out k x hx
      have hvw := hv
      obtain ⟨pv, cv, kv, rfl, hp, hcd, hkt⟩ := hv
      obtain ⟨po, pc, rfl⟩ := hp.shape
      obtain ⟨co, cc, rfl⟩ := hcd.shape
      obtain ⟨ko, kc, rfl⟩ := hkt.shape
      have HSC : Hid (∀ W, Below W0.heap.size W0 W → W.cell? ⟨BA, 7, none⟩ = some (.slice (some ⟨mb, o, none⟩) n mc1) ∧ W.cell? ⟨mb, o + k * 7, none⟩ = some (.string (S x.name)) ∧ W.cell? ⟨mb, o + k * 7 + 1, none⟩ = some (.slice po x.params.length pc) ∧ W.cell? ⟨mb, o + k * 7 + 2, none⟩ = some (.string (S x.res)) ∧ W.cell? ⟨mb, o + k * 7 + 3, none⟩ = some (.bool x.abs) ∧ W.cell? ⟨mb, o + k * 7 + 4, none⟩ = some (.int .i64 x.loc) ∧ W.cell? ⟨mb, o + k * 7 + 5, none⟩ = some (.slice co x.code.length cc) ∧ W.cell? ⟨mb, o + k * 7 + 6, none⟩ = some (.slice ko x.cats.length kc)) := Lib.hid (fun W hW => by
        have ho := Only.ofBelow (S := fun _ => False) hW
        exact ⟨(HBA.out.below hW).cell 7 rfl, ho.cell (a := ⟨mb, o + k * 7, none⟩) (hcl 0 _ rfl) id, ho.cell (a := ⟨mb, o + k * 7 + 1, none⟩) (hcl 1 _ rfl) id, ho.cell (a := ⟨mb, o + k * 7 + 2, none⟩) (hcl 2 _ rfl) id, ho.cell (a := ⟨mb, o + k * 7 + 3, none⟩) (hcl 3 _ rfl) id, ho.cell (a := ⟨mb, o + k * 7 + 4, none⟩) (hcl 4 _ rfl) id, ho.cell (a := ⟨mb, o + k * 7 + 5, none⟩) (hcl 5 _ rfl) id, ho.cell (a := ⟨mb, o + k * 7 + 6, none⟩) (hcl 6 _ rfl) id⟩)
      have HMB := Lib.hid (HBR.out x (List.mem_of_getElem? hx))
      have HSG : Hid (∀ W, Below W0.heap.size W0 W → Calls Tryz.prog 16 #[.agg #[.string (S x.name), .slice po x.params.length pc, .string (S x.res), .bool x.abs, .int .i64 x.loc, .slice co x.code.length cc, .slice ko x.cats.length kc]] W (SaidS (signB x) W)) := Lib.hid (fun W hW => csign_any x _ W (MthR.st.keep hvw (Only.ofBelow (S := fun _ => False) hW) (fun _ _ => id)) HMB.out)
      have HRG : Hid (∀ W, Below W0.heap.size W0 W → Calls Tryz.prog 17 #[.agg #[.string (S x.name), .slice po x.params.length pc, .string (S x.res), .bool x.abs, .int .i64 x.loc, .slice co x.code.length cc, .slice ko x.cats.length kc]] W (SaidS (signB x) W)) := Lib.hid (fun W hW => refsign_any x _ W (MthR.st.keep hvw (Only.ofBelow (S := fun _ => False) hW) (fun _ _ => id)) HMB.out)
      unfold SaidS at HSG HRG
      generalize S (signB x) = uS at HSG HRG
      clear hx hkl hcl hp hcd hkt hvw HMB
      have hk0 : (0 : Int) ≤ k := by omega
      have hkn : (k : Int) < (n : Int) := by omega
      go_upto_region 6 with fail
      have hB := HB.out
      obtain ⟨q7, m0, m1, m2, m3, m4, m5, m6⟩ := HSC.out _ hB
      first
      | (go_region_held (fun W => W.cell? ⟨BA, 7, none⟩ = some (.slice (some ⟨mb, o, none⟩) n mc1) ∧ W.cell? ⟨mb, o + k * 7, none⟩ = some (.string (S x.name)) ∧ W.cell? ⟨mb, o + k * 7 + 1, none⟩ = some (.slice po x.params.length pc) ∧ W.cell? ⟨mb, o + k * 7 + 2, none⟩ = some (.string (S x.res)) ∧ W.cell? ⟨mb, o + k * 7 + 3, none⟩ = some (.bool x.abs) ∧ W.cell? ⟨mb, o + k * 7 + 4, none⟩ = some (.int .i64 x.loc) ∧ W.cell? ⟨mb, o + k * 7 + 5, none⟩ = some (.slice co x.code.length cc) ∧ W.cell? ⟨mb, o + k * 7 + 6, none⟩ = some (.slice ko x.cats.length kc)) ((refine HSC.out _ ?_; (repeat (first | (with_reducible exact Below.refl _ _) | (with_reducible assumption) | (with_reducible (apply below_step; rotate_left; assumption)) | (with_reducible refine below_drew ?_)))))
          (first
           | (go_at_call 16; (with_reducible refine (HSG.out _ ?_).mono ?_); (focus ((repeat (first | (with_reducible exact Below.refl _ _) | (with_reducible assumption) | (with_reducible (apply below_step; rotate_left; assumption)) | (with_reducible refine below_drew ?_))); done)); rintro e wx1 ⟨rfl, bx1⟩)
           | (go_at_call 17; (with_reducible refine (HRG.out _ ?_).mono ?_); (focus ((repeat (first | (with_reducible exact Below.refl _ _) | (with_reducible assumption) | (with_reducible (apply below_step; rotate_left; assumption)) | (with_reducible refine below_drew ?_))); done)); rintro e wx2 ⟨rfl, bx2⟩)))
      | fail
      all_goals
        have hbE : Below W0.heap.size W0 wx2 := by (repeat (first | (with_reducible exact Below.refl _ _) | (with_reducible assumption) | (with_reducible (apply below_step; rotate_left; assumption)) | (with_reducible refine below_drew ?_)))
        have HBE := Lib.hid hbE
        clear hbE
        go_wp2
        go_roundw
        case rel => exact ⟨k + 1, by omega, by go_num, HBE.out⟩
        case measure => simp [intOf]; omega
    · obtain rfl : n = k := by omega
      clear hlt
      go_upto_region 8 with fail
      clear e7
      have hB := HB.out
      have hRR : (R == R) = true := by simp
      obtain ⟨c0, c1, c2, c3, c4, c5, c6, c7, d0, d1, d2, d3, d4, d5, d6, d7⟩ := HS.out _ hB
      first
      | (go_region_held (fun W => W.cell? ⟨BA, 0, none⟩ = some (.string (S a.name)) ∧ W.cell? ⟨BA, 1, none⟩ = some (.string (S a.sup)) ∧ W.cell? ⟨BA, 2, none⟩ = some (.slice lo1 a.like.length lc1) ∧ W.cell? ⟨BA, 3, none⟩ = some (.bool a.itf) ∧ W.cell? ⟨BA, 4, none⟩ = some (.bool a.abs) ∧ W.cell? ⟨BA, 5, none⟩ = some (.bool a.fin) ∧ W.cell? ⟨BA, 6, none⟩ = some (.slice fo1 a.flds.length fc1) ∧ W.cell? ⟨BA, 7, none⟩ = some (.slice mo1 n mc1) ∧ W.cell? ⟨BB, 0, none⟩ = some (.string (S b.name)) ∧ W.cell? ⟨BB, 1, none⟩ = some (.string (S b.sup)) ∧ W.cell? ⟨BB, 2, none⟩ = some (.slice lo2 b.like.length lc2) ∧ W.cell? ⟨BB, 3, none⟩ = some (.bool b.itf) ∧ W.cell? ⟨BB, 4, none⟩ = some (.bool b.abs) ∧ W.cell? ⟨BB, 5, none⟩ = some (.bool b.fin) ∧ W.cell? ⟨BB, 6, none⟩ = some (.slice fo2 b.flds.length fc2) ∧ W.cell? ⟨BB, 7, none⟩ = some (.slice mo2 b.mths.length mc2)) ((refine HS.out _ ?_; (repeat (first | (with_reducible exact Below.refl _ _) | (with_reducible assumption) | (with_reducible (apply below_step; rotate_left; assumption)) | (with_reducible refine below_drew ?_)))))
          (first
           | (go_at_call 15; (with_reducible refine (HA.out _ ?_).mono ?_); (focus ((repeat (first | (with_reducible exact Below.refl _ _) | (with_reducible assumption) | (with_reducible (apply below_step; rotate_left; assumption)) | (with_reducible refine below_drew ?_))); done)); rintro e wx1 ⟨rfl, bx1⟩)
           | (go_at_call 18; (with_reducible refine (HSM.out _ ?_).mono ?_); (focus ((repeat (first | (with_reducible exact Below.refl _ _) | (with_reducible assumption) | (with_reducible (apply below_step; rotate_left; assumption)) | (with_reducible refine below_drew ?_))); done)); rintro e wx2 ⟨rfl, bx2⟩)
           | (go_at_call 19; (with_reducible refine (HSR.out _ ?_).mono ?_); (focus ((repeat (first | (with_reducible exact Below.refl _ _) | (with_reducible assumption) | (with_reducible (apply below_step; rotate_left; assumption)) | (with_reducible refine below_drew ?_))); done)); rintro e wx3 ⟨rfl, bx3⟩)
           | (go_at_call 18; (with_reducible refine (HSS.out _ ?_).mono ?_); (focus ((repeat (first | (with_reducible exact Below.refl _ _) | (with_reducible assumption) | (with_reducible (apply below_step; rotate_left; assumption)) | (with_reducible refine below_drew ?_))); done)); rintro e wx4 ⟨rfl, bx4⟩)))
      | fail
      all_goals
        have hbE : Below W0.heap.size W0 wx4 := by (repeat (first | (with_reducible exact Below.refl _ _) | (with_reducible assumption) | (with_reducible (apply below_step; rotate_left; assumption)) | (with_reducible refine below_drew ?_)))
        have HBE := Lib.hid (HB0.out.trans (hbE.mono HB0.out.size))
        clear hbE
        go_wp2
        go_ret
        exact ⟨rfl, HBE.out⟩
theorem classSame_all (u : Value) (a : Cls) (v : Value) (b : Cls) (w : World) (hT : CT w) (hu : ClsR Anyw w a u) (ha : a.real) (hv : ClsR Anyw w b v) (hb : b.real) (hbr : ∀ m ∈ a.mths, m.brief) :
    Calls Tryz.prog 3 #[u, v] w (Said true w) := classSame_any u v a b w hT hu hv ha hb hbr
end Go.Proofs.YtpincofjopmaaaaGreatDoor
