/-
  The walk of the law ClassPacks: classes are the document's bytes, and themselves again, or may not be.
  Conditions: the tables hold what they hold at the start.
-/
import Derived.Test.YtkoiamaoimgjjaaGreatDoorM51
import Derived.Test.YtkoiamaoimgjjaaGreatDoorM40
import Derived.Test.YtkoiamaoimgjjaaGreatDoorM55
import Derived.Deep.RegionHeld
import Derived.Deep.DrawnRows
namespace Go.Proofs.YtkoiamaoimgjjaaGreatDoor
open Go.RowKit
theorem allC_take (l : List Cls) (k : Nat) (x : Cls) (h : l[k]? = some x) : allC (l.take (k + 1)) = if allC (l.take k) = 0 then x.e else allC (l.take k) := by
  induction l generalizing k with
  | nil => simp at h
  | cons c r ih =>
    cases k with
    | zero =>
      simp at h
      subst h
      by_cases hc : c.e = 0 <;> simp [allC, hc]
    | succ k =>
      have q := ih k (by simpa using h)
      rw [List.take_succ_cons, List.take_succ_cons]
      unfold allC
      by_cases hc : c.e = 0
      · rw [if_pos hc, if_pos hc]; exact q
      · rw [if_neg hc, if_neg hc, if_neg hc]
set_option maxHeartbeats 4000000 in
set_option maxRecDepth 100000 in
theorem classPacks_any (sv : Value) (l : List Cls) (w : World) (hT : CT w) (hs : Src 8 ClsR Anyw w sv l) (hr : ∀ c ∈ l, c.real) (hlen : l.length ≤ 9223372036854775807) :
    Calls Tryz.prog 6 #[sv] w (Said true w) := by
  have HT := Lib.hid hT
  obtain ⟨n, hn⟩ : ∃ n, n = l.length := ⟨_, rfl⟩
  obtain ⟨so, sc, rfl⟩ : ∃ so sc, sv = .slice so n sc := by rw [hn]; exact hs.shape
  have HN := Lib.hid hn
  rw [← hn] at hlen
  by_cases h70 : n ≤ 70
  case neg =>
    have h70' : 70 < (n : Int) := by omega
    clear hT hs hr hn h70
    go_enter Tryz.func6, Tryz.ntmps6
    go_wp2_with fail
    refine (awake5_any w HT.out).mono ?_
    rintro e w1 ⟨rfl, hb⟩
    go_wp2
    go_ret
    exact ⟨rfl, hb⟩
  have h70' : ¬ (70 < (n : Int)) := by omega
  have HC := Lib.hid (Src.elem hs)
  have HRL := Lib.hid hr
  have HSRC : Hid (∀ W, Below w.heap.size w W → Src 8 ClsR Anyw W (.slice so n sc) l) := Lib.hid (fun W hW => ClsR.st.below hs hW)
  have HPK : Hid (∀ W, Below w.heap.size w W → Calls Tryz.prog 19 #[.slice so n sc] W (PutG (packE l) (listB Cls.bytes l) W)) := Lib.hid (fun W hW =>
    cpack_any l _ W (ClsR.st.below hs hW) (hT.keep hW) (fun c hc => (hr c hc).2.1) (fun c hc => (hr c hc).1) (by omega))
  have HPE : Hid (packE l = if 64 < n then 51 else allC l) := Lib.hid (by rw [hn]; rfl)
  clear hT hs hr hn
  go_enter Tryz.func6, Tryz.ntmps6
  go_wp2
  go_loopw [3, 4] (fun v3 v4 wr => ∃ (k E : Nat), k ≤ n ∧ v4 = .int .i64 k ∧ v3 = .int .i64 (E : Nat) ∧ E = allC (l.take k) ∧ Below w.heap.size w wr) (fun _ v4 _ => n - (intOf v4).toNat)
  case atStart => exact ⟨0, 0, Nat.zero_le _, rfl, rfl, rfl, Below.refl _ _⟩
  case round =>
    obtain ⟨k, E, hk, rfl, rfl, hall, hbl⟩ := hrel
    have HA := Lib.hid hall
    have HB := Lib.hid hbl
    clear hall hbl
    by_cases hlt : k < n
    · have hkl : k < l.length := by have := HN.out; omega
      obtain ⟨x, hx⟩ : ∃ x, l[k]? = some x := ⟨_, List.getElem?_eq_getElem hkl⟩
      obtain ⟨b, o, v, rfl, hv, _, hcl⟩ := HC.out k x hx
      have HV := Lib.hid hv
      obtain ⟨_, _, _, rfl, ⟨lo, lc, rfl⟩, ⟨fo, fc, rfl⟩, ⟨mo, mc, rfl⟩⟩ := cls_shape hv
      have HS : Hid (∀ W, Below w.heap.size w W → W.cell? ⟨b, o + k * 8, none⟩ = some (.string (S x.name)) ∧ W.cell? ⟨b, o + k * 8 + 1, none⟩ = some (.string (S x.sup)) ∧ W.cell? ⟨b, o + k * 8 + 2, none⟩ = some (.slice lo x.like.length lc) ∧ W.cell? ⟨b, o + k * 8 + 3, none⟩ = some (.bool x.itf) ∧ W.cell? ⟨b, o + k * 8 + 4, none⟩ = some (.bool x.abs) ∧ W.cell? ⟨b, o + k * 8 + 5, none⟩ = some (.bool x.fin) ∧ W.cell? ⟨b, o + k * 8 + 6, none⟩ = some (.slice fo x.flds.length fc) ∧ W.cell? ⟨b, o + k * 8 + 7, none⟩ = some (.slice mo x.mths.length mc)) := Lib.hid (fun W hW => by
        have ho := Only.ofBelow (S := fun _ => False) hW
        exact ⟨ho.cell (a := ⟨b, o + k * 8, none⟩) (hcl 0 _ rfl) id, ho.cell (a := ⟨b, o + k * 8 + 1, none⟩) (hcl 1 _ rfl) id, ho.cell (a := ⟨b, o + k * 8 + 2, none⟩) (hcl 2 _ rfl) id, ho.cell (a := ⟨b, o + k * 8 + 3, none⟩) (hcl 3 _ rfl) id, ho.cell (a := ⟨b, o + k * 8 + 4, none⟩) (hcl 4 _ rfl) id, ho.cell (a := ⟨b, o + k * 8 + 5, none⟩) (hcl 5 _ rfl) id, ho.cell (a := ⟨b, o + k * 8 + 6, none⟩) (hcl 6 _ rfl) id, ho.cell (a := ⟨b, o + k * 8 + 7, none⟩) (hcl 7 _ rfl) id⟩)
      have HVW : Hid (∀ W, Below w.heap.size w W → ClsR Anyw W x (.agg #[.string (S x.name), .string (S x.sup), .slice lo x.like.length lc, .bool x.itf, .bool x.abs, .bool x.fin, .slice fo x.flds.length fc, .slice mo x.mths.length mc])) := Lib.hid (fun W hW => ClsR.st.keep HV.out (Only.ofBelow (S := fun _ => False) hW) (fun _ _ => id))
      have hxr := HRL.out x (List.mem_of_getElem? hx)
      have HXF := Lib.hid hxr.2.1
      have HTK := Lib.hid (allC_take l k x hx)
      have HGR := Lib.hid (cfew_any (A := Anyw) x _ wr (HVW.out wr HB.out) hxr.2.1)
      clear hx hkl hcl hv hxr
      have hk0 : (0 : Int) ≤ k := by omega
      have hkn : (k : Int) < (n : Int) := by omega
      obtain ⟨d0, d1, d2, d3, d4, d5, d6, d7⟩ := HS.out wr HB.out
      go_wp2_with fail
      refine HGR.out.mono ?_
      rintro e w1 ⟨rfl, hb1⟩
      have HB1 := Lib.hid (HB.out.trans (hb1.mono HB.out.size))
      clear hb1 HGR d0 d1 d2 d3 d4 d5 d6 d7
      generalize x.great = g at ⊢
      cases g
      case true =>
        go_wp2_with fail
        refine (awake5_any w1 (HT.out.keep HB1.out)).mono ?_
        rintro e w2 ⟨rfl, hb2⟩
        have HB2 := Lib.hid (HB1.out.trans (hb2.mono HB1.out.size))
        clear hb2
        go_wp2
        go_ret
        exact ⟨rfl, HB2.out⟩
      by_cases hz : E = 0
      · subst hz
        have HRC := Lib.hid (refcheck5_any x _ w1 (HVW.out w1 HB1.out) HXF.out)
        have HNX : Hid (x.e = allC (l.take (k + 1))) := Lib.hid (by rw [HTK.out, ← HA.out, if_pos rfl])
        generalize x.e = F at HRC HNX
        obtain ⟨d0, d1, d2, d3, d4, d5, d6, d7⟩ := HS.out w1 HB1.out
        go_wp2_with fail
        refine HRC.out.mono ?_
        rintro e w2 ⟨rfl, hb2⟩
        have HB2 := Lib.hid (HB1.out.trans (hb2.mono HB1.out.size))
        clear hb2 HRC d0 d1 d2 d3 d4 d5 d6 d7
        go_wp2
        go_roundw
        case rel => exact ⟨k + 1, F, by omega, by go_num, rfl, HNX.out, HB2.out⟩
        case measure => simp [intOf]; omega
      · have hzb : ((E : Int) == 0) = false := by rw [beq_eq_false_iff_ne]; omega
        have HNX : Hid (E = allC (l.take (k + 1))) := Lib.hid (by rw [HTK.out, ← HA.out, if_neg hz])
        clear hz
        go_wp2
        go_roundw
        case rel => exact ⟨k + 1, E, by omega, by go_num, rfl, HNX.out, HB1.out⟩
        case measure => simp [intOf]; omega
    · obtain rfl : n = k := by omega
      rw [HN.out, List.take_of_length_le (Nat.le_refl _)] at HA
      clear hlt
      have hpk := HPK.out wr HB.out
      obtain ⟨Q, hQ⟩ : ∃ Q, Q = packE l := ⟨_, rfl⟩
      have hQE : Q = if 64 < n then 51 else E := by rw [hQ, HPE.out, HA.out]
      rw [← hQ] at hpk
      have HPX := Lib.hid hpk
      have HQ := Lib.hid hQ
      clear hpk hQ
      by_cases h64 : 64 < n
      case pos =>
        have h64' : 64 < (n : Int) := by omega
        rw [if_pos h64] at hQE
        subst hQE
        go_wp2_with fail
        refine HPX.out.mono ?_
        rintro e w2 ⟨_, hn2⟩
        obtain ⟨rfl, hb2⟩ := hn2 (by decide)
        have HB2 := Lib.hid (HB.out.trans (hb2.mono HB.out.size))
        clear hn2 hb2 HPX
        go_wp2_with fail
        refine (awake5_any w2 (HT.out.keep HB2.out)).mono ?_
        rintro e w3 ⟨rfl, hb3⟩
        have HB3 := Lib.hid (HB2.out.trans (hb3.mono HB2.out.size))
        clear hb3
        go_wp2
        go_ret
        exact ⟨rfl, HB3.out⟩
      have h64' : ¬ (64 < (n : Int)) := by omega
      rw [if_neg h64] at hQE
      subst hQE
      by_cases hz : Q = 0
      case neg =>
        have hzb : ((Q : Int) != 0) = true := by rw [bne_iff_ne]; omega
        have HZ := Lib.hid hz
        clear hz
        go_wp2_with fail
        refine HPX.out.mono ?_
        rintro e w2 ⟨_, hn2⟩
        obtain ⟨rfl, hb2⟩ := hn2 HZ.out
        have HB2 := Lib.hid (HB.out.trans (hb2.mono HB.out.size))
        clear hn2 hb2 HPX
        go_wp2_with fail
        refine (awake5_any w2 (HT.out.keep HB2.out)).mono ?_
        rintro e w3 ⟨rfl, hb3⟩
        have HB3 := Lib.hid (HB2.out.trans (hb3.mono HB2.out.size))
        clear hb3
        go_wp2
        go_ret
        exact ⟨rfl, HB3.out⟩
      subst hz
      have hgd : ∀ x ∈ l, x.Good := fun x hx => ⟨allC_zero l HA.out.symm x hx, (HRL.out x hx).1⟩
      have hll : l.length ≤ 64 := by have := HN.out; omega
      have hbl : (listB Cls.bytes l).length ≤ 1099511627776 := by
        have h1 := flat_le Cls.bytes 6711700000 l (fun x hx => (hgd x hx).le)
        have h2 : (Lib.uvarint l.length).length ≤ 10 := Lib.uvarint_length64 (by omega)
        have h3 : 6711700000 * l.length ≤ 6711700000 * 64 := Nat.mul_le_mul_left _ hll
        unfold listB
        rw [List.length_append]
        omega
      have HGD := Lib.hid hgd
      have HLL := Lib.hid hll
      have HBL := Lib.hid hbl
      clear hgd hll hbl
      go_wp2_with fail
      refine HPX.out.mono ?_
      rintro e w2 ⟨hy2, _⟩
      obtain ⟨v2, rfl, s2⟩ := hy2 rfl
      obtain ⟨ao2, m2, c2, rfl⟩ := row_shape s2.row
      have HB2 := Lib.hid (HB.out.trans (s2.bel.mono HB.out.size))
      have S2 := Lib.hid s2
      clear hy2 s2 HPX
      go_wp2_with fail
      refine (cunpack_any _ (listB Cls.bytes l) w2 (.ofRow S2.out.row) (HT.out.keep HB2.out) HBL.out).mono ?_
      rintro e w3 ⟨hb3, hres⟩
      have HB3 := Lib.hid (HB2.out.trans (hb3.mono HB2.out.size))
      have S3 := Lib.hid (S2.out.keep hb3)
      rcases hres with ⟨vs, m, rfl, hsm, _, hgm, _, hun⟩ | ⟨rfl, hno⟩
      case inr => exact absurd rfl (hno l HGD.out HLL.out)
      obtain rfl := hun l HGD.out HLL.out rfl
      have HSM := Lib.hid hsm
      obtain ⟨so3, sc3, rfl⟩ := hsm.shape
      clear hsm hgm hun hb3 S2
      rw [← HN.out] at HSM ⊢
      have HA3 : Hid (∀ W, Below w3.heap.size w3 W → Calls Tryz.prog 12 #[] W (Said true W)) := Lib.hid (fun W hW => awake5_any W (HT.out.keep (HB3.out.trans (hW.mono HB3.out.size))))
      have HRP : Hid (∀ W, Below w3.heap.size w3 W → Calls Tryz.prog 21 #[.slice so n sc] W (SaidU (S (listB Cls.bytes m)) W)) := Lib.hid (fun W hW => refpack5_any m _ W (HSRC.out W (HB3.out.trans (hW.mono HB3.out.size))) HLL.out HGD.out)
      have HSA : Hid (∀ W, Below w3.heap.size w3 W → Calls Tryz.prog 22 #[.slice so n sc, .slice so3 n sc3] W (Said true W)) := Lib.hid (fun W hW => by
        have q := refsameall_any m m _ _ W (HSRC.out W (HB3.out.trans (hW.mono HB3.out.size))) (ClsR.st.below HSM.out hW) (fun c hc => (HRL.out c hc).2.1) (fun c hc => (HRL.out c hc).2.1) (by have := HLL.out; omega) (by have := HLL.out; omega)
        rw [samB_refl cls_refl] at q
        exact q)
      have HCV : Hid (∀ W, Below w3.heap.size w3 W → Sem.run Tryz.prog (convert 31 9 (.slice ao2 m2 c2)) W = .ok (.string (S (listB Cls.bytes m))) W) := Lib.hid (fun W hW => conv_owned (S3.out.keep hW).row)
      generalize S (listB Cls.bytes m) = uB at HRP HCV
      go_upto_region 17 with fail
      have hB := Below.refl w3.heap.size w3
      have gc := HCV.out _ hB
      first
      | (go_region_held (fun W => Sem.run Tryz.prog (convert 31 9 (.slice ao2 m2 c2)) W = .ok (.string uB) W) ((refine HCV.out _ ?_; (repeat (first | (with_reducible exact Below.refl _ _) | (with_reducible assumption) | (with_reducible (apply below_step; rotate_left; assumption)) | (with_reducible refine below_drew ?_)))))
          (first
           | (go_at_call 12; refine (HA3.out _ ?_).mono ?_; (focus ((repeat (first | (with_reducible exact Below.refl _ _) | (with_reducible assumption) | (with_reducible (apply below_step; rotate_left; assumption)) | (with_reducible refine below_drew ?_))); done)); rintro e wA ⟨rfl, b1⟩)
           | (go_at_call 21; refine (HRP.out _ ?_).mono ?_; (focus ((repeat (first | (with_reducible exact Below.refl _ _) | (with_reducible assumption) | (with_reducible (apply below_step; rotate_left; assumption)) | (with_reducible refine below_drew ?_))); done)); rintro e wB ⟨rfl, b2⟩)
           | (go_at_call 22; refine (HSA.out _ ?_).mono ?_; (focus ((repeat (first | (with_reducible exact Below.refl _ _) | (with_reducible assumption) | (with_reducible (apply below_step; rotate_left; assumption)) | (with_reducible refine below_drew ?_))); done)); rintro e wC ⟨rfl, b3⟩)))
      | fail
      all_goals
        have hbE : Below w3.heap.size w3 wC := by (repeat (first | (with_reducible exact Below.refl _ _) | (with_reducible assumption) | (with_reducible (apply below_step; rotate_left; assumption)) | (with_reducible refine below_drew ?_)))
        have HBE := Lib.hid (HB3.out.trans (hbE.mono HB3.out.size))
        clear hbE
        go_wp2
        go_ret
        exact ⟨rfl, HBE.out⟩
end Go.Proofs.YtkoiamaoimgjjaaGreatDoor
