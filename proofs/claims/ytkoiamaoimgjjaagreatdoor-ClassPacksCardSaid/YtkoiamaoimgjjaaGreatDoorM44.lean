/-
  The contract of package class's Pack: classes as bytes, or the first error that one of them has.
  Conditions: the classes' parts lie in memory that was there before; the tables hold what they hold at the start; texts and lists that a machine may hold.
-/
import Derived.Test.YtkoiamaoimgjjaaGreatDoorM28
import Derived.Test.YtkoiamaoimgjjaaGreatDoorM30
namespace Go.Proofs.YtkoiamaoimgjjaaGreatDoor
open Go.RowKit
/-- The first error of classes; 0: none. -/
def allC : List Cls → Nat
  | [] => 0
  | c :: l => if c.e = 0 then allC l else c.e
theorem allC_drop (l : List Cls) (k : Nat) (x : Cls) (h : l[k]? = some x) : allC (l.drop k) = if x.e = 0 then allC (l.drop (k + 1)) else x.e := by
  have hl : k < l.length := by
    rcases Nat.lt_or_ge k l.length with h1 | h1
    · exact h1
    · rw [List.getElem?_eq_none h1] at h; cases h
  rw [List.getElem?_eq_getElem hl] at h
  rw [List.drop_eq_getElem_cons hl, Option.some.inj h]
  rfl
theorem allC_zero : ∀ (l : List Cls), allC l = 0 → ∀ x ∈ l, x.e = 0
  | [], _, x, hx => by simp at hx
  | c :: l, h, x, hx => by
    unfold allC at h
    by_cases hc : c.e = 0
    · rw [if_pos hc] at h
      rcases List.mem_cons.1 hx with rfl | hx
      · exact hc
      · exact allC_zero l h x hx
    · rw [if_neg hc] at h
      exact absurd h hc
def packE (l : List Cls) : Nat := if 64 < l.length then 51 else allC l
set_option maxHeartbeats 4000000 in
set_option maxRecDepth 100000 in
theorem cpack_any {A : Nat → Prop} (l : List Cls) (sv : Value) (w : World) (hs : Src 8 ClsR A w sv l) (hT : CT w) (hfit : ∀ c ∈ l, c.Fit) (hh : ∀ c ∈ l, c.held) (hlen : l.length ≤ 9223372036854775807) :
    Calls Tryz.prog 19 #[sv] w (PutG (packE l) (listB Cls.bytes l) w) := by
  obtain ⟨n, hn⟩ : ∃ n, n = l.length := ⟨_, rfl⟩
  obtain ⟨so, sc, rfl⟩ : ∃ so sc, sv = .slice so n sc := by rw [hn]; exact hs.shape
  have HN := Lib.hid hn
  have hE : packE l = if 64 < n then 51 else allC l := by rw [hn]; rfl
  obtain ⟨E, hEE⟩ : ∃ E, E = packE l := ⟨_, rfl⟩
  rw [← hEE] at hE ⊢
  rw [← hn] at hlen
  by_cases h64 : 64 < n
  case pos =>
    rw [if_pos h64] at hE
    obtain rfl : E = 51 := hE
    have h64' : 64 < (n : Int) := by omega
    clear hn hEE hs hfit hh h64
    go_enter Tryz.func19, Tryz.ntmps19
    go_wp2
    go_ret2
    exact ⟨(fun h => by cases h), fun _ => ⟨rfl, Below.refl _ _⟩⟩
  rw [if_neg h64] at hE
  have h64' : ¬ (64 < (n : Int)) := by omega
  have HE := Lib.hid hE
  have HT := Lib.hid hT
  have HFT := Lib.hid hfit
  have HC := Lib.hid (Src.elem hs)
  obtain ⟨Y, hY⟩ : ∃ Y, Y = listB Cls.bytes l := ⟨_, rfl⟩
  rw [← hY]
  have HPL : Hid (allC l = 0 → ∀ W, Below w.heap.size w W → Calls Tryz.prog 45 #[.slice so n sc, .func (.func 35) #[] #[]] W (Bytes' W Y)) := Lib.hid (fun h0 W hW => by
    have hg : ∀ x ∈ l, x.Good := fun x hx => ⟨allC_zero l h0 x hx, hh x hx⟩
    rw [hY]
    refine putl_cls (A := A) 35 Cls.bytes l _ W (enters_fn Tryz.func35 (by kernel_rfl) rfl) (ClsR.st.below hs hW) (fun k x v w' hx hb hv => putclass_any x v w' hv (hg x (List.mem_of_getElem? hx)) ((hT.keep hW).keep hb)) (by omega) ?_
    have h1 := flat_le Cls.bytes 6711700000 l (fun x hx => (hg x hx).le)
    have h2 : 6711700000 * l.length ≤ 6711700000 * 64 := Nat.mul_le_mul_left _ (by omega)
    omega)
  clear hn hEE hs hfit hh h64 hE hT hY
  go_enter Tryz.func19, Tryz.ntmps19
  go_wp2
  go_loopw [12] (fun v12 wr => ∃ k : Nat, k ≤ n ∧ v12 = .int .i64 k ∧ E = allC (l.drop k) ∧ Below w.heap.size w wr) (fun v12 _ => n - (intOf v12).toNat)
  case atStart => exact ⟨0, Nat.zero_le _, rfl, by rw [HE.out]; rfl, Below.refl _ _⟩
  case round =>
    obtain ⟨k, hk, rfl, hall, hbw⟩ := hrel
    have HA := Lib.hid hall
    have HB := Lib.hid hbw
    clear hall hbw
    by_cases hlt : k < n
    · have hkl : k < l.length := by have := HN.out; omega
      obtain ⟨x, hx⟩ : ∃ x, l[k]? = some x := ⟨_, List.getElem?_eq_getElem hkl⟩
      obtain ⟨b, o, v, rfl, hv, _, hcl⟩ := HC.out k x hx
      have hoW := Only.ofBelow (S := fun _ => False) HB.out
      have HV := Lib.hid (ClsR.st.keep hv hoW (fun _ _ => id))
      obtain ⟨_, _, _, rfl, ⟨lo, lc, rfl⟩, ⟨fo, fc, rfl⟩, ⟨mo, mc, rfl⟩⟩ := cls_shape hv
      have d0 : wr.cell? ⟨b, o + k * 8, none⟩ = some (.string (S x.name)) := hoW.cell (a := ⟨b, o + k * 8, none⟩) (hcl 0 _ rfl) id
      have d1 : wr.cell? ⟨b, o + k * 8 + 1, none⟩ = some (.string (S x.sup)) := hoW.cell (a := ⟨b, o + k * 8 + 1, none⟩) (hcl 1 _ rfl) id
      have d2 : wr.cell? ⟨b, o + k * 8 + 2, none⟩ = some (.slice lo x.like.length lc) := hoW.cell (a := ⟨b, o + k * 8 + 2, none⟩) (hcl 2 _ rfl) id
      have d3 : wr.cell? ⟨b, o + k * 8 + 3, none⟩ = some (.bool x.itf) := hoW.cell (a := ⟨b, o + k * 8 + 3, none⟩) (hcl 3 _ rfl) id
      have d4 : wr.cell? ⟨b, o + k * 8 + 4, none⟩ = some (.bool x.abs) := hoW.cell (a := ⟨b, o + k * 8 + 4, none⟩) (hcl 4 _ rfl) id
      have d5 : wr.cell? ⟨b, o + k * 8 + 5, none⟩ = some (.bool x.fin) := hoW.cell (a := ⟨b, o + k * 8 + 5, none⟩) (hcl 5 _ rfl) id
      have d6 : wr.cell? ⟨b, o + k * 8 + 6, none⟩ = some (.slice fo x.flds.length fc) := hoW.cell (a := ⟨b, o + k * 8 + 6, none⟩) (hcl 6 _ rfl) id
      have d7 : wr.cell? ⟨b, o + k * 8 + 7, none⟩ = some (.slice mo x.mths.length mc) := hoW.cell (a := ⟨b, o + k * 8 + 7, none⟩) (hcl 7 _ rfl) id
      have hdr := allC_drop l k x hx
      have HDR := Lib.hid hdr
      have hbA : Below wr.heap.size wr (wr.alloc (.cells #[.string (S x.name), .string (S x.sup), .slice lo x.like.length lc, .bool x.itf, .bool x.abs, .bool x.fin, .slice fo x.flds.length fc, .slice mo x.mths.length mc] 26)) := (Below.refl _ wr).alloc (Nat.le_refl _) _
      have HBA := Lib.hid hbA
      have HBX := Lib.hid (Box.new wr #[.string (S x.name), .string (S x.sup), .slice lo x.like.length lc, .bool x.itf, .bool x.abs, .bool x.fin, .slice fo x.flds.length fc, .slice mo x.mths.length mc] 26)
      have HCK := Lib.hid (ccheck_any x _ (wr.alloc (.cells #[.string (S x.name), .string (S x.sup), .slice lo x.like.length lc, .bool x.itf, .bool x.abs, .bool x.fin, .slice fo x.flds.length fc, .slice mo x.mths.length mc] 26)) (ClsR.st.keep HV.out (Only.ofBelow (S := fun _ => False) hbA) (fun _ _ => id)) (HT.out.keep (below_step HB.out hbA)) (HFT.out x (List.mem_of_getElem? hx)))
      clear hx hkl hoW hcl hv hdr hbA
      have hk0 : (0 : Int) ≤ k := by omega
      have hkn : (k : Int) < (n : Int) := by omega
      go_upto_region 6 with fail
      generalize wr.alloc (.cells #[.string (S x.name), .string (S x.sup), .slice lo x.like.length lc, .bool x.itf, .bool x.abs, .bool x.fin, .slice fo x.flds.length fc, .slice mo x.mths.length mc] 26) = W1 at HBA HBX HCK ⊢
      generalize wr.heap.size = H at HBX ⊢
      clear d0 d1 d2 d3 d4 d5 d6 d7
      have c0 := HBX.out.cell 0 rfl
      have c1 := HBX.out.cell 1 rfl
      have c2 := HBX.out.cell 2 rfl
      have c3 := HBX.out.cell 3 rfl
      have c4 := HBX.out.cell 4 rfl
      have c5 := HBX.out.cell 5 rfl
      have c6 := HBX.out.cell 6 rfl
      have c7 := HBX.out.cell 7 rfl
      generalize x.e = e0 at HCK HDR
      go_wp2_with fail
      refine HCK.out.mono ?_
      rintro e w2 ⟨rfl, hb2⟩
      have HB2 := Lib.hid (below_step (below_step HB.out HBA.out) hb2)
      clear hb2 HCK c0 c1 c2 c3 c4 c5 c6 c7
      by_cases hz : e0 = 0
      · subst hz
        rw [if_pos rfl] at HDR
        go_wp2
        go_roundw
        case rel => exact ⟨k + 1, by omega, by go_num, by rw [HA.out]; exact HDR.out, HB2.out⟩
        case measure => simp [intOf]; omega
      · rw [if_neg hz] at HDR
        have hzb : ((e0 : Int) != 0) = true := by rw [bne_iff_ne]; omega
        have hEe : E = e0 := by rw [HA.out, HDR.out]
        have HEE := Lib.hid hEe
        have HZ := Lib.hid hz
        clear hz hEe
        go_wp2
        go_ret2
        exact ⟨fun h => absurd (HEE.out.symm.trans h) HZ.out, fun _ => ⟨by rw [HEE.out]; rfl, HB2.out⟩⟩
    · obtain rfl : n = k := by omega
      have hE0 : E = 0 := by rw [HA.out, List.drop_of_length_le (by rw [HN.out]; exact Nat.le_refl _)]; rfl
      have HE0 := Lib.hid hE0
      have HP := Lib.hid (HPL.out (HE.out.symm.trans hE0) wr HB.out)
      clear hE0
      go_wp2_with fail
      refine HP.out.mono ?_
      rintro e w2 ⟨v2, rfl, s2⟩
      obtain ⟨ao2, m2, c2, rfl⟩ := row_shape s2.row
      have S2 := Lib.hid (s2.le HB.out)
      clear s2 HP
      go_wp2
      go_ret2
      exact ⟨fun _ => ⟨_, rfl, S2.out⟩, fun h => absurd HE0.out h⟩
end Go.Proofs.YtkoiamaoimgjjaaGreatDoor
