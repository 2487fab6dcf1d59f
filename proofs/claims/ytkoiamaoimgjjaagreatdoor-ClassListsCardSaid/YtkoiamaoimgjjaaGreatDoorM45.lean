/-
  The walk of the law ClassLists: classes as bytes are how many, and each one's bytes.
  Conditions: the tables hold what they hold at the start.
-/
import Derived.Test.YtkoiamaoimgjjaaGreatDoorM37
import Derived.Test.YtkoiamaoimgjjaaGreatDoorM40
import Derived.Test.YtkoiamaoimgjjaaGreatDoorM44
import Derived.Deep.RegionHeld
import Derived.Deep.DrawnRows
namespace Go.Proofs.YtkoiamaoimgjjaaGreatDoor
open Go.RowKit
theorem flat_take_le5 {α : Type} (f : α → List UInt8) (l : List α) (k : Nat) : ((l.take k).flatMap f).length ≤ (l.flatMap f).length := by
  conv => rhs; rw [← List.take_append_drop k l, List.flatMap_append, List.length_append]
  omega
set_option maxHeartbeats 4000000 in
set_option maxRecDepth 100000 in
theorem classLists_any (sv : Value) (l : List Cls) (w : World) (hT : CT w) (hs : Src 8 ClsR Anyw w sv l) (hr : ∀ c ∈ l, c.real) (hlen : l.length ≤ 9223372036854775807) :
    Calls Tryz.prog 9 #[sv] w (Said true w) := by
  have HT := Lib.hid hT
  obtain ⟨n, hn⟩ : ∃ n, n = l.length := ⟨_, rfl⟩
  obtain ⟨so, sc, rfl⟩ : ∃ so sc, sv = .slice so n sc := by rw [hn]; exact hs.shape
  have HN := Lib.hid hn
  rw [← hn] at hlen
  by_cases h20 : n ≤ 20
  case neg =>
    have h20' : 20 < (n : Int) := by omega
    clear hT hs hr hn h20
    go_enter Tryz.func9, Tryz.ntmps9
    go_wp2_with fail
    refine (awake5_any w HT.out).mono ?_
    rintro e w1 ⟨rfl, hb⟩
    go_wp2
    go_ret
    exact ⟨rfl, hb⟩
  have h20' : ¬ (20 < (n : Int)) := by omega
  have HC := Lib.hid (Src.elem hs)
  have HRL := Lib.hid hr
  have HPK : Hid (∀ W, Below w.heap.size w W → Calls Tryz.prog 19 #[.slice so n sc] W (PutG (allC l) (listB Cls.bytes l) W)) := Lib.hid (fun W hW => by
    have q := cpack_any l _ W (ClsR.st.below hs hW) (hT.keep hW) (fun c hc => (hr c hc).2.1) (fun c hc => (hr c hc).1) (by omega)
    rw [show packE l = allC l from if_neg (by omega)] at q
    exact q)
  clear hT hs hr hn
  go_enter Tryz.func9, Tryz.ntmps9
  go_wp2
  go_loopw [3, 4] (fun v3 v4 wr => ∃ k : Nat, k ≤ n ∧ v4 = .int .i64 k ∧ v3 = .string (S ((l.take k).flatMap Cls.bytes)) ∧ ((l.take k).flatMap Cls.bytes).length ≤ 6711700000 * k ∧ allC l = allC (l.drop k) ∧ Below w.heap.size w wr) (fun _ v4 _ => n - (intOf v4).toNat)
  case atStart => exact ⟨0, Nat.zero_le _, rfl, rfl, by simp, rfl, Below.refl _ _⟩
  case round =>
    obtain ⟨k, hk, rfl, rfl, hsz, hall, hbl⟩ := hrel
    have HA := Lib.hid hall
    have HB := Lib.hid hbl
    clear hall hbl
    by_cases hlt : k < n
    · have hkl : k < l.length := by have := HN.out; omega
      obtain ⟨x, hx⟩ : ∃ x, l[k]? = some x := ⟨_, List.getElem?_eq_getElem hkl⟩
      obtain ⟨b, o, v, rfl, hv, _, hcl⟩ := HC.out k x hx
      have HV := Lib.hid hv
      obtain ⟨_, _, _, rfl, ⟨lo, lc, rfl⟩, ⟨fo, fc, rfl⟩, ⟨mo, mc, rfl⟩⟩ := cls_shape hv
      have HS : Hid (∀ W, Below w.heap.size w W → W.cell? ⟨b, o + k * 8, none⟩ = some (.string (S x.name)) ∧ W.cell? ⟨b, o + k * 8 + 1, none⟩ = some (.string (S x.sup)) ∧ W.cell? ⟨b, o + k * 8 + 2, none⟩ = some (.slice lo x.like.length lc) ∧ W.cell? ⟨b, o + k * 8 + 3, none⟩ = some (.bool x.itf) ∧ W.cell? ⟨b, o + k * 8 + 4, none⟩ = some (.bool x.abs) ∧ W.cell? ⟨b, o + k * 8 + 5, none⟩ = some (.bool x.fin) ∧ W.cell? ⟨b, o + k * 8 + 6, none⟩ = some (.slice fo x.flds.length fc) ∧ W.cell? ⟨b, o + k * 8 + 7, none⟩ = some (.slice mo x.mths.length mc)) := Lib.hid (fun W hW => by
        have ho := Only.ofBelow (S := fun _ => False) hW
        exact ⟨ho.cell (a := ⟨b, o + k * 8, none⟩) (hcl 0 _ rfl) id, ho.cell (a := ⟨b, o + k * 8 + 1, none⟩) (hcl 1 _ rfl) id, ho.cell (a := ⟨b, o + k * 8 + 2, none⟩) (hcl 2 _ rfl) id, ho.cell (a := ⟨b, o + k * 8 + 3, none⟩) (hcl 3 _ rfl) id, ho.cell (a := ⟨b, o + k * 8 + 4, none⟩) (hcl 4 _ rfl) id, ho.cell (a := ⟨b, o + k * 8 + 5, none⟩) (hcl 5 _ rfl) id, ho.cell (a := ⟨b, o + k * 8 + 6, none⟩) (hcl 6 _ rfl) id, ho.cell (a := ⟨b, o + k * 8 + 7, none⟩) (hcl 7 _ rfl) id⟩)
      have HVW : Hid (∀ W, Below w.heap.size w W → ClsR Anyw W x (.agg #[.string (S x.name), .string (S x.sup), .slice lo x.like.length lc, .bool x.itf, .bool x.abs, .bool x.fin, .slice fo x.flds.length fc, .slice mo x.mths.length mc])) := Lib.hid (fun W hW => ClsR.st.keep HV.out (Only.ofBelow (S := fun _ => False) hW) (fun _ _ => id))
      have hxr := HRL.out x (List.mem_of_getElem? hx)
      have HXF := Lib.hid hxr.2.1
      have HXH := Lib.hid hxr.1
      have HDR := Lib.hid (allC_drop l k x hx)
      have HNX : Hid ((l.take (k + 1)).flatMap Cls.bytes = (l.take k).flatMap Cls.bytes ++ x.bytes) := Lib.hid (by rw [List.take_add_one, hx, List.flatMap_append]; simp)
      have hzA : (S ((l.take k).flatMap Cls.bytes)).size ≤ 6711700000 * k := by rw [S_size]; exact hsz
      have HSZ := Lib.hid hsz
      have HGR := Lib.hid (cfew_any (A := Anyw) x _ wr (HVW.out wr HB.out) hxr.2.1)
      clear hx hkl hcl hv hxr hsz
      have hk0 : (0 : Int) ≤ k := by omega
      have hkn : (k : Int) < (n : Int) := by omega
      obtain ⟨uA, huA⟩ : ∃ u, u = S ((l.take k).flatMap Cls.bytes) := ⟨_, rfl⟩
      rw [← huA] at hzA ⊢
      have HUA := Lib.hid huA
      clear huA
      obtain ⟨d0, d1, d2, d3, d4, d5, d6, d7⟩ := HS.out wr HB.out
      go_wp2_with fail
      refine HGR.out.mono ?_
      rintro e w1 ⟨rfl, hb1⟩
      have HB1 := Lib.hid (HB.out.trans (hb1.mono HB.out.size))
      clear hb1 HGR d0 d1 d2 d3 d4 d5 d6 d7
      generalize x.great = g at ⊢
      cases g
      case true =>
        go_wp2_with fail
        refine (awake5_any w1 (HT.out.keep HB1.out)).mono ?_
        rintro e w2 ⟨rfl, hb2⟩
        have HB2 := Lib.hid (HB1.out.trans (hb2.mono HB1.out.size))
        clear hb2
        go_wp2
        go_ret
        exact ⟨rfl, HB2.out⟩
      obtain ⟨d0, d1, d2, d3, d4, d5, d6, d7⟩ := HS.out w1 HB1.out
      go_wp2_with fail
      refine (cput_any x _ w1 (HVW.out w1 HB1.out) (HT.out.keep HB1.out) HXF.out HXH.out).mono ?_
      rintro e w2 ⟨hy, hno⟩
      clear d0 d1 d2 d3 d4 d5 d6 d7
      by_cases hz : x.e = 0
      · obtain ⟨v2, rfl, s2⟩ := hy hz
        obtain ⟨ao2, m2, c2, rfl⟩ := row_shape s2.row
        have hgx : x.Good := ⟨hz, HXH.out⟩
        have hxl := hgx.le
        have hzx : (S x.bytes).size ≤ 6711700000 := by rw [S_size]; exact hxl
        have HXL := Lib.hid hxl
        have hcv := conv_owned s2.row
        have HB2 := Lib.hid (HB1.out.trans (s2.bel.mono HB1.out.size))
        have hdr := HDR.out
        rw [if_pos hz] at hdr
        have HD2 := Lib.hid hdr
        have HS2 : Hid (S ((l.take (k + 1)).flatMap Cls.bytes) = uA ++ S x.bytes) := Lib.hid (by rw [HNX.out, ← S_append, ← HUA.out])
        clear hy hno s2 hgx hxl hdr hz
        generalize S x.bytes = uX at hzx hcv HS2
        go_wp2
        go_roundw
        case rel => exact ⟨k + 1, by omega, by go_num, by rw [HS2.out], by rw [HNX.out, List.length_append]; have := HSZ.out; have := HXL.out; omega, HA.out.trans HD2.out, HB2.out⟩
        case measure => simp [intOf]; omega
      · obtain ⟨rfl, hb2⟩ := hno hz
        have HB2 := Lib.hid (HB1.out.trans (hb2.mono HB1.out.size))
        have hzb : (((x.e : Nat) : Int) != 0) = true := by rw [bne_iff_ne]; omega
        have hae : allC l = x.e := by rw [HA.out, HDR.out, if_neg hz]
        have hpk := HPK.out w2 HB2.out
        rw [hae] at hpk
        have HPX := Lib.hid hpk
        have HCK : Hid (∀ W, Below w.heap.size w W → Calls Tryz.prog 13 #[.agg #[.string (S x.name), .string (S x.sup), .slice lo x.like.length lc, .bool x.itf, .bool x.abs, .bool x.fin, .slice fo x.flds.length fc, .slice mo x.mths.length mc]] W fun e w' => e = .returned (.int .i64 (x.e : Nat)) ∧ Below W.heap.size W w') := Lib.hid (fun W hW => ccheck_any x _ W (HVW.out W hW) (HT.out.keep hW) HXF.out)
        have HZ := Lib.hid hz
        clear hy hno hb2 hae hpk hz
        generalize x.e = E at HPX HCK HZ hzb ⊢
        go_wp2_with fail
        refine HPX.out.mono ?_
        rintro e w3 ⟨_, hn3⟩
        obtain ⟨rfl, hb3⟩ := hn3 HZ.out
        have HB3 := Lib.hid (HB2.out.trans (hb3.mono HB2.out.size))
        clear hn3 hb3 HPX
        go_wp2_with fail
        refine (awake5_any w3 (HT.out.keep HB3.out)).mono ?_
        rintro e w4 ⟨rfl, hb4⟩
        have HB4 := Lib.hid (HB3.out.trans (hb4.mono HB3.out.size))
        clear hb4
        obtain ⟨d0, d1, d2, d3, d4, d5, d6, d7⟩ := HS.out w4 HB4.out
        go_wp2_with fail
        refine (HCK.out w4 HB4.out).mono ?_
        rintro e w5 ⟨rfl, hb5⟩
        have HB5 := Lib.hid (HB4.out.trans (hb5.mono HB4.out.size))
        clear hb5 d0 d1 d2 d3 d4 d5 d6 d7
        go_wp2
        go_ret
        exact ⟨rfl, HB5.out⟩
    · obtain rfl : n = k := by omega
      have h0 : allC l = 0 := by rw [HA.out, List.drop_of_length_le (by rw [HN.out]; exact Nat.le_refl _)]; rfl
      have hpk := HPK.out wr HB.out
      rw [h0] at hpk
      have HPX := Lib.hid hpk
      rw [HN.out, List.take_of_length_le (Nat.le_refl _), ← HN.out] at hsz ⊢
      have hlb : listB Cls.bytes l = [UInt8.ofNat n] ++ l.flatMap Cls.bytes := by unfold listB; rw [← HN.out, Lib.uvarint_small (by omega)]
      have hzA : (S (l.flatMap Cls.bytes)).size ≤ 6711700000 * n := by rw [S_size]; exact hsz
      have HLB : Hid (S (listB Cls.bytes l) = S [UInt8.ofNat n] ++ S (l.flatMap Cls.bytes)) := Lib.hid (by rw [hlb, S_append])
      clear hpk h0 hlb hsz hlt
      generalize S (l.flatMap Cls.bytes) = uA at hzA HLB ⊢
      go_wp2_with fail
      refine HPX.out.mono ?_
      rintro e w2 ⟨hy, _⟩
      obtain ⟨v2, rfl, s2⟩ := hy rfl
      obtain ⟨ao2, m2, c2, rfl⟩ := row_shape s2.row
      have HB2 := Lib.hid (HB.out.trans (s2.bel.mono HB.out.size))
      have S2 := Lib.hid s2
      clear hy s2 HPX
      go_wp2_with fail
      refine (awake5_any w2 (HT.out.keep HB2.out)).mono ?_
      rintro e w3 ⟨rfl, hb3⟩
      have HB3 := Lib.hid (HB2.out.trans (hb3.mono HB2.out.size))
      have hcv := conv_owned (S2.out.keep hb3).row
      rw [HLB.out] at hcv
      have hby : IntKind.u8.wrap (n : Int) = (n : Int) := by unfold IntKind.wrap; simp [IntKind.bits, IntKind.signed]; omega
      have hcv1 : Sem.run Tryz.prog (convert 31 9 (.slice (some ⟨w3.heap.size, 0, none⟩) 1 1)) (w3.alloc (.cells #[.int .u8 (n : Nat)] 5)) = .ok (.string (S [UInt8.ofNat n])) (w3.alloc (.cells #[.int .u8 (n : Nat)] 5)) := by
        refine conv_src (l := [UInt8.ofNat n]) (.inr ⟨⟨w3.heap.size, 0, none⟩, 1, rfl, fun j u hj => ?_⟩)
        match j, hj with
        | 0, hj =>
          rw [Addr.add_mid]
          have hnn : (UInt8.ofNat n).toNat = n := by simp; omega
          simp [Lib.byteCells, hnn] at hj
          subst hj
          simp
        | j + 1, hj => simp [Lib.byteCells] at hj
      have hz1 : (S [UInt8.ofNat n]).size ≤ 1 := by rw [S_size]; simp
      have HBE := Lib.hid (HB3.out.trans ((show Below w3.heap.size w3 (w3.alloc (.cells #[.int .u8 (n : Nat)] 5)) from (Below.refl _ w3).alloc (Nat.le_refl _) _).mono HB3.out.size))
      generalize S [UInt8.ofNat n] = u1 at hcv hcv1 hz1
      clear hb3 S2
      go_wp2
      go_ret
      exact ⟨rfl, HBE.out⟩
end Go.Proofs.YtkoiamaoimgjjaaGreatDoor
