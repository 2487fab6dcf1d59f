/-
  The walk of the law ClassUnpacks: classes that are got of any bytes may be, and these are their bytes.
  Conditions: the tables hold what they hold at the start.
-/
import Derived.Test.YtkoiamaoimgjjaaGreatDoorM37
import Derived.Test.YtkoiamaoimgjjaaGreatDoorM48
import Derived.Test.YtkoiamaoimgjjaaGreatDoorM55
import Derived.Deep.RegionHeld
import Derived.Deep.DrawnRows
namespace Go.Proofs.YtkoiamaoimgjjaaGreatDoor
open Go.RowKit
set_option maxHeartbeats 4000000 in
set_option maxRecDepth 100000 in
theorem classUnpacks_any (s : List UInt8) (w : World) (hT : CT w) (hs : s.length ≤ 9223372036854775807) :
    Calls Tryz.prog 7 #[.string (S s)] w (Said true w) := by
  have HT := Lib.hid hT
  have hsz : ((S s).size : Int) = (s.length : Int) := by rw [S_size]
  clear hT
  by_cases h4 : s.length ≤ 4000
  case neg =>
    have h4' : 4000 < (s.length : Int) := by omega
    go_enter Tryz.func7, Tryz.ntmps7
    go_wp2_with fail
    refine (awake5_any w HT.out).mono ?_
    rintro e w1 ⟨rfl, hb⟩
    go_wp2
    go_ret
    exact ⟨rfl, hb⟩
  have h4' : ¬ (4000 < (s.length : Int)) := by omega
  have H4 := Lib.hid h4
  have hcb := conv_back s w
  have hsrc := src_back s w (grownCap w s.length 0 5)
  have hbb := below_back s w
  generalize grownCap w s.length 0 5 = cc at hcb hsrc
  generalize Lib.bytesWorld w 5 (S s) = w1 at hcb hsrc hbb
  have HSRC := Lib.hid hsrc
  have B1 := Lib.hid hbb
  clear hsrc hbb h4
  go_enter Tryz.func7, Tryz.ntmps7
  go_wp2_with fail
  refine (cunpack_any _ s w1 HSRC.out (HT.out.keep B1.out) (by have := H4.out; omega)).mono ?_
  rintro e w2 ⟨hb2, hres⟩
  have B2 := Lib.hid (B1.out.trans (hb2.mono B1.out.size))
  clear hcb hb2 h4' hsz
  rcases hres with ⟨vs, m, rfl, hsm, hm64, hgm, hpm, _⟩ | ⟨rfl, hno⟩
  case inr =>
    clear hno
    go_wp2_with fail
    refine (awake5_any w2 (HT.out.keep B2.out)).mono ?_
    rintro e w3 ⟨rfl, hb3⟩
    have B3 := Lib.hid (B2.out.trans (hb3.mono B2.out.size))
    clear hb3
    go_wp2
    go_ret
    exact ⟨rfl, B3.out⟩
  obtain ⟨n, hn⟩ : ∃ n, n = m.length := ⟨_, rfl⟩
  obtain ⟨so, sc, rfl⟩ : ∃ so sc, vs = .slice so n sc := by rw [hn]; exact hsm.shape
  have HN := Lib.hid hn
  have HC := Lib.hid (Src.elem hsm)
  have HG := Lib.hid hgm
  have h64 : n ≤ 64 := by omega
  have HPU : Hid (∀ W, Below w2.heap.size w2 W → Calls Tryz.prog 21 #[.slice so n sc] W (SaidU (S s) W)) := Lib.hid (fun W hW => by
    have q := refpack5_any m _ W (ClsR.st.below hsm hW) hm64 (fun c hc => (hgm c hc).1)
    rw [hpm] at q
    exact q)
  clear hsm hm64 hgm hpm hn
  generalize S s = uS at HPU ⊢
  go_wp2
  go_loopw [5] (fun v5 wr => ∃ k : Nat, k ≤ n ∧ v5 = .int .i64 k ∧ Below w2.heap.size w2 wr) (fun v5 _ => n - (intOf v5).toNat)
  case atStart => exact ⟨0, Nat.zero_le _, rfl, Below.refl _ _⟩
  case round =>
    obtain ⟨k, hk, rfl, hbl⟩ := hrel
    have HB := Lib.hid hbl
    clear hbl
    by_cases hlt : k < n
    · have hkl : k < m.length := by have := HN.out; omega
      obtain ⟨x, hx⟩ : ∃ x, m[k]? = some x := ⟨_, List.getElem?_eq_getElem hkl⟩
      obtain ⟨b, o, v, rfl, hv, _, hcl⟩ := HC.out k x hx
      have ho := Only.ofBelow (S := fun _ => False) HB.out
      have HV := Lib.hid (ClsR.st.keep hv ho (fun _ _ => id))
      obtain ⟨_, _, _, rfl, ⟨lo, lc, rfl⟩, ⟨fo, fc, rfl⟩, ⟨mo, mc, rfl⟩⟩ := cls_shape hv
      obtain ⟨d0, d1, d2, d3, d4, d5, d6, d7⟩ : (fun W : World => W.cell? ⟨b, o + k * 8, none⟩ = some (.string (S x.name)) ∧ W.cell? ⟨b, o + k * 8 + 1, none⟩ = some (.string (S x.sup)) ∧ W.cell? ⟨b, o + k * 8 + 2, none⟩ = some (.slice lo x.like.length lc) ∧ W.cell? ⟨b, o + k * 8 + 3, none⟩ = some (.bool x.itf) ∧ W.cell? ⟨b, o + k * 8 + 4, none⟩ = some (.bool x.abs) ∧ W.cell? ⟨b, o + k * 8 + 5, none⟩ = some (.bool x.fin) ∧ W.cell? ⟨b, o + k * 8 + 6, none⟩ = some (.slice fo x.flds.length fc) ∧ W.cell? ⟨b, o + k * 8 + 7, none⟩ = some (.slice mo x.mths.length mc)) wr := ⟨ho.cell (a := ⟨b, o + k * 8, none⟩) (hcl 0 _ rfl) id, ho.cell (a := ⟨b, o + k * 8 + 1, none⟩) (hcl 1 _ rfl) id, ho.cell (a := ⟨b, o + k * 8 + 2, none⟩) (hcl 2 _ rfl) id, ho.cell (a := ⟨b, o + k * 8 + 3, none⟩) (hcl 3 _ rfl) id, ho.cell (a := ⟨b, o + k * 8 + 4, none⟩) (hcl 4 _ rfl) id, ho.cell (a := ⟨b, o + k * 8 + 5, none⟩) (hcl 5 _ rfl) id, ho.cell (a := ⟨b, o + k * 8 + 6, none⟩) (hcl 6 _ rfl) id, ho.cell (a := ⟨b, o + k * 8 + 7, none⟩) (hcl 7 _ rfl) id⟩
      have hgx := HG.out x (List.mem_of_getElem? hx)
      have hrc := refcheck5_any x _ wr HV.out hgx.2
      rw [hgx.1.e] at hrc
      have HRC := Lib.hid hrc
      clear hx hkl ho hcl hv hgx hrc
      have hk0 : (0 : Int) ≤ k := by omega
      have hkn : (k : Int) < (n : Int) := by omega
      go_wp2_with fail
      refine HRC.out.mono ?_
      rintro e w3 ⟨rfl, hb3⟩
      have HB3 := Lib.hid (HB.out.trans (hb3.mono HB.out.size))
      clear hb3 d0 d1 d2 d3 d4 d5 d6 d7 HRC
      go_wp2
      go_roundw
      case rel => exact ⟨k + 1, by omega, by go_num, HB3.out⟩
      case measure => simp [intOf]; omega
    · obtain rfl : n = k := by omega
      have B3 := Lib.hid (B2.out.trans (HB.out.mono B2.out.size))
      have h64i : (n : Int) ≤ 64 := by omega
      go_wp2_with fail
      refine (awake5_any wr (HT.out.keep B3.out)).mono ?_
      rintro e w4 ⟨rfl, hb4⟩
      have HB4 := Lib.hid (HB.out.trans (hb4.mono HB.out.size))
      have HP4 := Lib.hid (HPU.out w4 HB4.out)
      clear hb4
      go_wp2_with fail
      refine HP4.out.mono ?_
      rintro e w5 ⟨rfl, hb5⟩
      have B5 := Lib.hid (B2.out.trans ((HB4.out.trans (hb5.mono HB4.out.size)).mono B2.out.size))
      clear hb5 HP4
      go_wp2
      go_ret
      exact ⟨rfl, B5.out⟩
end Go.Proofs.YtkoiamaoimgjjaaGreatDoor
