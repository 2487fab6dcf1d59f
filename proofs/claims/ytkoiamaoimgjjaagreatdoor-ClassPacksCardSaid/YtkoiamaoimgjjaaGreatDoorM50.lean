/-
  The contract of the document's Put of layer 5: a class that may be, as bytes.
  Conditions: the class may be; its parts lie in memory that was there before.
-/
import Derived.Test.YtkoiamaoimgjjaaGreatDoorM49
import Derived.Test.YtkoiamaoimgjjaaGreatDoorM38
import Derived.Deep.RegionHeld
import Derived.Deep.DrawnRows
namespace Go.Proofs.YtkoiamaoimgjjaaGreatDoor
open Go.RowKit
theorem flat_take_le {α : Type} (f : α → List UInt8) (l : List α) (k : Nat) : ((l.take k).flatMap f).length ≤ (l.flatMap f).length := by
  conv => rhs; rw [← List.take_append_drop k l, List.flatMap_append, List.length_append]
  omega
theorem flat_next {α : Type} (f : α → List UInt8) (l : List α) (k : Nat) (x : α) (h : l[k]? = some x) (p : List UInt8) : p ++ (l.take (k + 1)).flatMap f = (p ++ (l.take k).flatMap f) ++ f x := by
  rw [List.take_add_one, h, List.flatMap_append, List.append_assoc]; simp
theorem size_le {l : List UInt8} {n : Nat} (h : l.length ≤ n) : (S l).size ≤ n := by rw [S_size]; exact h
/-- The bytes ahead of the fields; of the methods. -/
def pre0 (c : Cls) : List UInt8 := ((((((textBytes c.name ++ textBytes c.sup) ++ listB textBytes c.like) ++ [flagByte c.itf]) ++ [flagByte c.abs]) ++ [flagByte c.fin]) ++ Lib.uvarint c.flds.length)
def pre1 (c : Cls) : List UInt8 := (pre0 c ++ c.flds.flatMap Fld.bytes) ++ Lib.uvarint c.mths.length
theorem pre_bytes (c : Cls) : c.bytes = pre1 c ++ c.mths.flatMap Mth.bytes := by
  unfold Cls.bytes pre1 pre0 listB
  simp
theorem pre1_le (c : Cls) (h : c.Good) : (pre1 c).length ≤ 6711700000 ∧ (pre0 c).length ≤ (pre1 c).length ∧ ∀ k, (pre0 c ++ (c.flds.take k).flatMap Fld.bytes).length ≤ 6711700000 := by
  have h1 := h.le
  rw [pre_bytes, List.length_append] at h1
  refine ⟨by omega, by unfold pre1; simp only [List.length_append]; omega, fun k => ?_⟩
  have h2 := flat_take_le Fld.bytes c.flds k
  unfold pre1 at h1
  simp only [List.length_append] at h1 ⊢
  omega
theorem mths_le (c : Cls) (h : c.Good) (k : Nat) : (pre1 c ++ (c.mths.take k).flatMap Mth.bytes).length ≤ 6711700000 := by
  have h1 := h.le
  have h2 := flat_take_le Mth.bytes c.mths k
  rw [pre_bytes, List.length_append] at h1
  rw [List.length_append]
  omega
set_option maxHeartbeats 4000000 in
set_option maxRecDepth 100000 in
theorem refput5_any {A : Nat → Prop} (c : Cls) (v : Value) (w : World) (hv : ClsR A w c v) (hg : c.Good) :
    Calls Tryz.prog 17 #[v] w (SaidU (S c.bytes) w) := by
  obtain ⟨lv, fv, mv, rfl, hl, hf, hm⟩ := hv
  obtain ⟨lo, lc, rfl⟩ := hl.shape
  obtain ⟨fo, fc, rfl⟩ := hf.shape
  obtain ⟨mo, mc, rfl⟩ := hm.shape
  have hb0 : Below w.heap.size w (w.alloc (.cells #[.string (S c.name), .string (S c.sup), .slice lo c.like.length lc, .bool c.itf, .bool c.abs, .bool c.fin, .slice fo c.flds.length fc, .slice mo c.mths.length mc] 26)) := (Below.refl _ w).alloc (Nat.le_refl _) _
  have HB0 := Lib.hid hb0
  have HBX := Lib.hid (Box.new w #[.string (S c.name), .string (S c.sup), .slice lo c.like.length lc, .bool c.itf, .bool c.abs, .bool c.fin, .slice fo c.flds.length fc, .slice mo c.mths.length mc] 26)
  have HCF := Lib.hid (Src.elem (FldR.st.below hf hb0))
  have HCM := Lib.hid (Src.elem (MthR.st.below hm hb0))
  have HLK : Hid (∀ W, Below (w.alloc (.cells #[.string (S c.name), .string (S c.sup), .slice lo c.like.length lc, .bool c.itf, .bool c.abs, .bool c.fin, .slice fo c.flds.length fc, .slice mo c.mths.length mc] 26)).heap.size (w.alloc (.cells #[.string (S c.name), .string (S c.sup), .slice lo c.like.length lc, .bool c.itf, .bool c.abs, .bool c.fin, .slice fo c.flds.length fc, .slice mo c.mths.length mc] 26)) W → Src 1 StrR A W (.slice lo c.like.length lc) c.like) := Lib.hid (fun W hW => StrR.st.below (StrR.st.below hl hb0) hW)
  have HG := Lib.hid hg
  have hc1 := hg.nums.1
  have hc2 := hg.nums.2.1
  have hc3 := hg.nums.2.2
  obtain ⟨R, hR⟩ : ∃ R, R = S c.bytes := ⟨_, rfl⟩
  rw [← hR]
  have HR := Lib.hid hR
  have hl1 := classB_len hg.name
  have hl2 := classB_len hg.above.1
  have hll : ∀ x ∈ c.like, x.length ≤ 4096 := fun x hx => by have := classB_len (hg.above.2 x hx); omega
  obtain ⟨u1, hu1⟩ : ∃ u, u = S (textBytes c.name) := ⟨_, rfl⟩
  have zu1 : u1.size ≤ 4106 := by rw [hu1]; exact size_le (text_le4 (by omega))
  obtain ⟨u2, hu2⟩ : ∃ u, u = S (textBytes c.sup) := ⟨_, rfl⟩
  have zu2 : u2.size ≤ 4106 := by rw [hu2]; exact size_le (text_le4 (by omega))
  obtain ⟨u3, hu3⟩ : ∃ u, u = S (listB textBytes c.like) := ⟨_, rfl⟩
  have zu3 : u3.size ≤ 200000 := by rw [hu3]; exact size_le (by have h := listB_le textBytes 4106 32 c.like (fun x hx => text_le4 (hll x hx)) hc1 (by decide); omega)
  obtain ⟨u4, hu4⟩ : ∃ u, u = S ([flagByte c.itf]) := ⟨_, rfl⟩
  have zu4 : u4.size ≤ 1 := by rw [hu4]; exact size_le (by simp)
  obtain ⟨u5, hu5⟩ : ∃ u, u = S ([flagByte c.abs]) := ⟨_, rfl⟩
  have zu5 : u5.size ≤ 1 := by rw [hu5]; exact size_le (by simp)
  obtain ⟨u6, hu6⟩ : ∃ u, u = S ([flagByte c.fin]) := ⟨_, rfl⟩
  have zu6 : u6.size ≤ 1 := by rw [hu6]; exact size_le (by simp)
  obtain ⟨u7, hu7⟩ : ∃ u, u = S (Lib.uvarint c.flds.length) := ⟨_, rfl⟩
  have zu7 : u7.size ≤ 10 := by rw [hu7]; exact size_le (Lib.uvarint_length64 (by omega))
  obtain ⟨u8, hu8⟩ : ∃ u, u = S (Lib.uvarint c.mths.length) := ⟨_, rfl⟩
  have zu8 : u8.size ≤ 10 := by rw [hu8]; exact size_le (Lib.uvarint_length64 (by omega))
  have HT1 : Hid (∀ W, Calls Tryz.prog 38 #[.string (S c.name)] W (SaidU u1 W)) := Lib.hid (fun W => by rw [hu1]; exact reftext_any c.name W (by omega))
  have HT2 : Hid (∀ W, Calls Tryz.prog 38 #[.string (S c.sup)] W (SaidU u2 W)) := Lib.hid (fun W => by rw [hu2]; exact reftext_any c.sup W (by omega))
  have HF4 : Hid (∀ W, Calls Tryz.prog 40 #[.bool c.itf] W (SaidU u4 W)) := Lib.hid (fun W => by rw [hu4]; exact (refflag_any c.itf W).mono (fun _ _ h => ⟨h.1, h.2 ▸ Below.refl _ _⟩))
  have HF5 : Hid (∀ W, Calls Tryz.prog 40 #[.bool c.abs] W (SaidU u5 W)) := Lib.hid (fun W => by rw [hu5]; exact (refflag_any c.abs W).mono (fun _ _ h => ⟨h.1, h.2 ▸ Below.refl _ _⟩))
  have HF6 : Hid (∀ W, Calls Tryz.prog 40 #[.bool c.fin] W (SaidU u6 W)) := Lib.hid (fun W => by rw [hu6]; exact (refflag_any c.fin W).mono (fun _ _ h => ⟨h.1, h.2 ▸ Below.refl _ _⟩))
  have HN7 : Hid (∀ W, Calls Tryz.prog 41 #[.int .i64 (c.flds.length : Nat)] W (SaidU u7 W)) := Lib.hid (fun W => by rw [hu7]; exact refnum5_any _ (by omega) W)
  have HN8 : Hid (∀ W, Calls Tryz.prog 41 #[.int .i64 (c.mths.length : Nat)] W (SaidU u8 W)) := Lib.hid (fun W => by rw [hu8]; exact refnum5_any _ (by omega) W)
  have HT3 : Hid (∀ W, Below (w.alloc (.cells #[.string (S c.name), .string (S c.sup), .slice lo c.like.length lc, .bool c.itf, .bool c.abs, .bool c.fin, .slice fo c.flds.length fc, .slice mo c.mths.length mc] 26)).heap.size (w.alloc (.cells #[.string (S c.name), .string (S c.sup), .slice lo c.like.length lc, .bool c.itf, .bool c.abs, .bool c.fin, .slice fo c.flds.length fc, .slice mo c.mths.length mc] 26)) W → Calls Tryz.prog 39 #[.slice lo c.like.length lc] W (SaidU u3 W)) := Lib.hid (fun W hW => by rw [hu3]; exact reftexts5_any c.like _ W (HLK.out W hW) (by omega) hll)
  have HE0 : Hid (u1 ++ u2 ++ u3 ++ u4 ++ u5 ++ u6 ++ u7 = S (pre0 c)) := Lib.hid (by rw [hu1, hu2, hu3, hu4, hu5, hu6, hu7]; unfold pre0; simp only [S_append])
  have HE1 : Hid (S (pre0 c ++ c.flds.flatMap Fld.bytes) ++ u8 = S (pre1 c)) := Lib.hid (by rw [hu8]; unfold pre1; rw [S_append])
  clear hl hf hm hb0 hg hR HLK hll hl1 hl2 hu1 hu2 hu3 hu4 hu5 hu6 hu7 hu8
  obtain ⟨n1, h1⟩ : ∃ n, n = c.like.length := ⟨_, rfl⟩
  obtain ⟨n2, h2⟩ : ∃ n, n = c.flds.length := ⟨_, rfl⟩
  obtain ⟨n3, h3⟩ : ∃ n, n = c.mths.length := ⟨_, rfl⟩
  simp only [← h1, ← h2, ← h3] at HB0 HBX HCF HCM HT3 HN7 HN8 hc1 hc2 hc3 ⊢
  have HL2 := Lib.hid h2
  have HL3 := Lib.hid h3
  clear h1 h2 h3
  go_enter Tryz.func17, Tryz.ntmps17
  go_upto_region 1 with fail
  generalize w.alloc (.cells #[.string (S c.name), .string (S c.sup), .slice lo n1 lc, .bool c.itf, .bool c.abs, .bool c.fin, .slice fo n2 fc, .slice mo n3 mc] 26) = W0 at HB0 HBX HCF HCM HT3 ⊢
  obtain ⟨B, hB⟩ : ∃ B, B = w.heap.size := ⟨_, rfl⟩
  rw [← hB] at HBX ⊢
  clear hB
  have HS : Hid (∀ W, Below W0.heap.size W0 W → W.cell? ⟨B, 0, none⟩ = some (.string (S c.name)) ∧ W.cell? ⟨B, 1, none⟩ = some (.string (S c.sup)) ∧ W.cell? ⟨B, 2, none⟩ = some (.slice lo n1 lc) ∧ W.cell? ⟨B, 3, none⟩ = some (.bool c.itf) ∧ W.cell? ⟨B, 4, none⟩ = some (.bool c.abs) ∧ W.cell? ⟨B, 5, none⟩ = some (.bool c.fin) ∧ W.cell? ⟨B, 6, none⟩ = some (.slice fo n2 fc)) := Lib.hid (fun W hW => by
    have hx := HBX.out.below hW
    exact ⟨hx.cell 0 rfl, hx.cell 1 rfl, hx.cell 2 rfl, hx.cell 3 rfl, hx.cell 4 rfl, hx.cell 5 rfl, hx.cell 6 rfl⟩)
  obtain ⟨g0, g1, g2, g3, g4, g5, g6⟩ := HS.out _ (Below.refl _ W0)
  have k0 : ¬ (9223372036854775807 < u1.size + u2.size) := by omega
  have k1 : ¬ (9223372036854775807 < u1.size + u2.size + u3.size) := by omega
  have k2 : ¬ (9223372036854775807 < u1.size + u2.size + u3.size + u4.size) := by omega
  have k3 : ¬ (9223372036854775807 < u1.size + u2.size + u3.size + u4.size + u5.size) := by omega
  have k4 : ¬ (9223372036854775807 < u1.size + u2.size + u3.size + u4.size + u5.size + u6.size) := by omega
  have k5 : ¬ (9223372036854775807 < u1.size + u2.size + u3.size + u4.size + u5.size + u6.size + u7.size) := by omega
  first
  | (go_region_held (fun W => W.cell? ⟨B, 0, none⟩ = some (.string (S c.name)) ∧ W.cell? ⟨B, 1, none⟩ = some (.string (S c.sup)) ∧ W.cell? ⟨B, 2, none⟩ = some (.slice lo n1 lc) ∧ W.cell? ⟨B, 3, none⟩ = some (.bool c.itf) ∧ W.cell? ⟨B, 4, none⟩ = some (.bool c.abs) ∧ W.cell? ⟨B, 5, none⟩ = some (.bool c.fin) ∧ W.cell? ⟨B, 6, none⟩ = some (.slice fo n2 fc)) ((refine HS.out _ ?_; (repeat (first | (with_reducible exact Below.refl _ _) | (with_reducible assumption) | (with_reducible (apply below_step; rotate_left; assumption)) | (with_reducible refine below_drew ?_)))))
      (first | ((with_reducible refine (HT1.out _).mono ?_); rintro e w' ⟨rfl, b⟩)
             | ((with_reducible refine (HT2.out _).mono ?_); rintro e w' ⟨rfl, b⟩)
             | ((with_reducible refine (HT3.out _ ?_).mono ?_); (focus ((repeat (first | (with_reducible exact Below.refl _ _) | (with_reducible assumption) | (with_reducible (apply below_step; rotate_left; assumption)) | (with_reducible refine below_drew ?_))); done)); rintro e w' ⟨rfl, b⟩)
             | ((with_reducible refine (HF4.out _).mono ?_); rintro e w' ⟨rfl, b⟩)
             | ((with_reducible refine (HF5.out _).mono ?_); rintro e w' ⟨rfl, b⟩)
             | ((with_reducible refine (HF6.out _).mono ?_); rintro e w' ⟨rfl, b⟩)
             | ((with_reducible refine (HN7.out _).mono ?_); rintro e w' ⟨rfl, b⟩)))
  | fail
  have hbE : Below W0.heap.size W0 w' := by (repeat (first | (with_reducible exact Below.refl _ _) | (with_reducible assumption) | (with_reducible (apply below_step; rotate_left; assumption)) | (with_reducible refine below_drew ?_)))
  have HBS := Lib.hid hbE
  clear hbE
  clear g0 g1 g2 g3 g4 g5 g6 k0 k1 k2 k3 k4 k5
  have c6 := (HBX.out.below HBS.out).cell 6 rfl
  go_wp2
  clear c6
  go_loopw [3, 4] (fun v3 v4 wr => ∃ k : Nat, k ≤ n2 ∧ v4 = .int .i64 k ∧ v3 = .string (S (pre0 c ++ (c.flds.take k).flatMap Fld.bytes)) ∧ Below W0.heap.size W0 wr) (fun _ v4 _ => n2 - (intOf v4).toNat)
  case atStart => exact ⟨0, Nat.zero_le _, rfl, by rw [HE0.out]; simp, HBS.out⟩
  case round =>
    obtain ⟨k, hk, rfl, rfl, hbl⟩ := hrel
    have HB := Lib.hid hbl
    clear hbl
    by_cases hlt : k < n2
    · have hkl : k < c.flds.length := by have := HL2.out; omega
      obtain ⟨x, hx⟩ : ∃ x, c.flds[k]? = some x := ⟨_, List.getElem?_eq_getElem hkl⟩
      obtain ⟨b, o, v, rfl, hv, _, hcl⟩ := HCF.out k x hx
      obtain rfl := hv
      have hok := HG.out.flds x (List.mem_of_getElem? hx)
      have hok2 : memB x.name = true ∧ rightB x.kind = true := by unfold Fld.ok at hok; rw [Bool.and_eq_true] at hok; exact hok
      have hln := memB_len hok2.1
      have hlk := right_len hok2.2
      obtain ⟨uA, huA⟩ : ∃ u, u = S (pre0 c ++ (c.flds.take k).flatMap Fld.bytes) := ⟨_, rfl⟩
      have zuA : uA.size ≤ 6711700000 := by rw [huA]; exact size_le ((pre1_le c HG.out).2.2 k)
      obtain ⟨x1, hx1⟩ : ∃ u, u = S (textBytes x.name) := ⟨_, rfl⟩
      have zx1 : x1.size ≤ 4106 := by rw [hx1]; exact size_le (text_le4 (by omega))
      obtain ⟨x2, hx2⟩ : ∃ u, u = S (textBytes x.kind) := ⟨_, rfl⟩
      have zx2 : x2.size ≤ 4106 := by rw [hx2]; exact size_le (text_le4 (by omega))
      obtain ⟨x3, hx3⟩ : ∃ u, u = S ([flagByte x.tr]) := ⟨_, rfl⟩
      have zx3 : x3.size ≤ 1 := by rw [hx3]; exact size_le (by simp)
      have HX1 : Hid (∀ W, Calls Tryz.prog 38 #[.string (S x.name)] W (SaidU x1 W)) := Lib.hid (fun W => by rw [hx1]; exact reftext_any x.name W (by omega))
      have HX2 : Hid (∀ W, Calls Tryz.prog 38 #[.string (S x.kind)] W (SaidU x2 W)) := Lib.hid (fun W => by rw [hx2]; exact reftext_any x.kind W (by omega))
      have HX3 : Hid (∀ W, Calls Tryz.prog 40 #[.bool x.tr] W (SaidU x3 W)) := Lib.hid (fun W => by rw [hx3]; exact (refflag_any x.tr W).mono (fun _ _ h => ⟨h.1, h.2 ▸ Below.refl _ _⟩))
      have HNX : Hid (S (pre0 c ++ (c.flds.take (k + 1)).flatMap Fld.bytes) = uA ++ (x1 ++ x2 ++ x3)) := Lib.hid (by rw [flat_next _ _ _ _ hx, huA, hx1, hx2, hx3]; unfold Fld.bytes; simp only [S_append])
      have HXS : Hid (∀ W, Below W0.heap.size W0 W → W.cell? ⟨B, 6, none⟩ = some (.slice (some ⟨b, o, none⟩) n2 fc) ∧ W.cell? ⟨b, o + k * 3, none⟩ = some (.string (S x.name)) ∧ W.cell? ⟨b, o + k * 3 + 1, none⟩ = some (.string (S x.kind)) ∧ W.cell? ⟨b, o + k * 3 + 2, none⟩ = some (.bool x.tr)) := Lib.hid (fun W hW => by
        have ho := Only.ofBelow (S := fun _ => False) hW
        exact ⟨(HBX.out.below hW).cell 6 rfl, ho.cell (a := ⟨b, o + k * 3, none⟩) (hcl 0 _ rfl) id, ho.cell (a := ⟨b, o + k * 3 + 1, none⟩) (hcl 1 _ rfl) id, ho.cell (a := ⟨b, o + k * 3 + 2, none⟩) (hcl 2 _ rfl) id⟩)
      rw [← huA]
      have hk0 : (0 : Int) ≤ k := by omega
      have hkn : (k : Int) < (n2 : Int) := by omega
      clear hx hkl hcl hok hok2 hln hlk huA hx1 hx2 hx3
      obtain ⟨g0, g1, g2, g3⟩ := HXS.out _ HB.out
      go_upto_region 5 with fail
      have hB := HB.out
      have k0 : ¬ (9223372036854775807 < x1.size + x2.size) := by omega
      have k1 : ¬ (9223372036854775807 < x1.size + x2.size + x3.size) := by omega
      have kz : ¬ (9223372036854775807 < uA.size + (x1.size + x2.size + x3.size)) := by omega
      first
      | (go_region_held (fun W => W.cell? ⟨B, 6, none⟩ = some (.slice (some ⟨b, o, none⟩) n2 fc) ∧ W.cell? ⟨b, o + k * 3, none⟩ = some (.string (S x.name)) ∧ W.cell? ⟨b, o + k * 3 + 1, none⟩ = some (.string (S x.kind)) ∧ W.cell? ⟨b, o + k * 3 + 2, none⟩ = some (.bool x.tr)) ((refine HXS.out _ ?_; (repeat (first | (with_reducible exact Below.refl _ _) | (with_reducible assumption) | (with_reducible (apply below_step; rotate_left; assumption)) | (with_reducible refine below_drew ?_)))))
          (first | ((with_reducible refine (HX1.out _).mono ?_); rintro e w' ⟨rfl, b⟩)
                 | ((with_reducible refine (HX2.out _).mono ?_); rintro e w' ⟨rfl, b⟩)
                 | ((with_reducible refine (HX3.out _).mono ?_); rintro e w' ⟨rfl, b⟩)))
      | fail
      have hbE : Below W0.heap.size W0 w' := by (repeat (first | (with_reducible exact Below.refl _ _) | (with_reducible assumption) | (with_reducible (apply below_step; rotate_left; assumption)) | (with_reducible refine below_drew ?_)))
      have HBE := Lib.hid hbE
      clear hbE hB g0 g1 g2 g3 k0 k1 kz
      go_wp2
      go_roundw
      case rel => exact ⟨k + 1, by omega, by go_num, by rw [HNX.out], HBE.out⟩
      case measure => simp [intOf]; omega
    · obtain rfl : n2 = k := by omega
      rw [HL2.out, List.take_of_length_le (Nat.le_refl _), ← HL2.out]
      clear hlt
      obtain ⟨uB, huB⟩ : ∃ u, u = S (pre0 c ++ c.flds.flatMap Fld.bytes) := ⟨_, rfl⟩
      rw [← huB] at HE1 ⊢
      have zB : uB.size ≤ 6711700000 := by rw [huB]; exact size_le (by have := (pre1_le c HG.out).2.2 c.flds.length; rw [List.take_of_length_le (Nat.le_refl _)] at this; exact this)
      clear huB
      have hbw := HB.out
      have c6 := (HBX.out.below hbw).cell 6 rfl
      have c7 := (HBX.out.below hbw).cell 7 rfl
      clear hbw
      go_wp2_with fail
      refine (HN8.out _).mono ?_
      rintro e w2 ⟨rfl, hb2⟩
      have HB2 := Lib.hid (HB.out.trans (hb2.mono HB.out.size))
      clear hb2 c6 c7
      have c7 := (HBX.out.below HB2.out).cell 7 rfl
      go_wp2
      clear c7
      go_loopw [3, 5] (fun v3 v5 wr => ∃ k : Nat, k ≤ n3 ∧ v5 = .int .i64 k ∧ v3 = .string (S (pre1 c ++ (c.mths.take k).flatMap Mth.bytes)) ∧ Below W0.heap.size W0 wr) (fun _ v5 _ => n3 - (intOf v5).toNat)
      case atStart => exact ⟨0, Nat.zero_le _, rfl, by rw [HE1.out]; simp, HB2.out⟩
      case round =>
        obtain ⟨k, hk, rfl, rfl, hbl⟩ := hrel
        have HB := Lib.hid hbl
        have c7 := (HBX.out.below hbl).cell 7 rfl
        clear hbl
        by_cases hlt : k < n3
        · have hkl : k < c.mths.length := by have := HL3.out; omega
          obtain ⟨x, hx⟩ : ∃ x, c.mths[k]? = some x := ⟨_, List.getElem?_eq_getElem hkl⟩
          obtain ⟨b, o, v, rfl, hv, _, hcl⟩ := HCM.out k x hx
          obtain ⟨pv, cv, kv, rfl, hp, hcd, hkt⟩ := hv
          obtain ⟨po, pc, rfl⟩ := hp.shape
          obtain ⟨co, cc, rfl⟩ := hcd.shape
          obtain ⟨ko, kc, rfl⟩ := hkt.shape
          have hoW := Only.ofBelow (S := fun _ => False) HB.out
          have d0 : wr.cell? ⟨b, o + k * 7, none⟩ = some (.string (S x.name)) := hoW.cell (a := ⟨b, o + k * 7, none⟩) (hcl 0 _ rfl) id
          have d1 : wr.cell? ⟨b, o + k * 7 + 1, none⟩ = some (.slice po x.params.length pc) := hoW.cell (a := ⟨b, o + k * 7 + 1, none⟩) (hcl 1 _ rfl) id
          have d2 : wr.cell? ⟨b, o + k * 7 + 2, none⟩ = some (.string (S x.res)) := hoW.cell (a := ⟨b, o + k * 7 + 2, none⟩) (hcl 2 _ rfl) id
          have d3 : wr.cell? ⟨b, o + k * 7 + 3, none⟩ = some (.bool x.abs) := hoW.cell (a := ⟨b, o + k * 7 + 3, none⟩) (hcl 3 _ rfl) id
          have d4 : wr.cell? ⟨b, o + k * 7 + 4, none⟩ = some (.int .i64 x.loc) := hoW.cell (a := ⟨b, o + k * 7 + 4, none⟩) (hcl 4 _ rfl) id
          have d5 : wr.cell? ⟨b, o + k * 7 + 5, none⟩ = some (.slice co x.code.length cc) := hoW.cell (a := ⟨b, o + k * 7 + 5, none⟩) (hcl 5 _ rfl) id
          have d6 : wr.cell? ⟨b, o + k * 7 + 6, none⟩ = some (.slice ko x.cats.length kc) := hoW.cell (a := ⟨b, o + k * 7 + 6, none⟩) (hcl 6 _ rfl) id
          have HP := Lib.hid hp
          have HCD := Lib.hid hcd
          have HCK := Lib.hid (Src.elem hkt)
          have hgm := HG.out.mths x (List.mem_of_getElem? hx)
          have HGM := Lib.hid hgm
          have hnm := memB_len hgm.name
          have hpl : ∀ y ∈ x.params, y.length ≤ 4096 := fun y hy => by have := right_len (hgm.params y hy); omega
          have hrl := hgm.res_len
          have hp1 := hgm.nums.1
          have hp2 := hgm.nums.2.1
          have hp3 := hgm.nums.2.2.1
          have hp4 := hgm.nums.2.2.2
          have hall : ((pre1 c ++ (c.mths.take k).flatMap Mth.bytes) ++ x.bytes).length ≤ 6711700000 := by have := mths_le c HG.out (k + 1); rw [flat_next _ _ _ _ hx] at this; exact this
          have HAL := Lib.hid hall
          have HNB : Hid (S (pre1 c ++ (c.mths.take (k + 1)).flatMap Mth.bytes) = S ((pre1 c ++ (c.mths.take k).flatMap Mth.bytes) ++ x.bytes)) := Lib.hid (by rw [flat_next _ _ _ _ hx])
          obtain ⟨P, hP⟩ : ∃ P, P = pre1 c ++ (c.mths.take k).flatMap Mth.bytes := ⟨_, rfl⟩
          rw [← hP] at HAL HNB hall ⊢
          clear hP
          obtain ⟨uA, huA⟩ : ∃ u, u = S (P) := ⟨_, rfl⟩
          have zuA : uA.size ≤ 6711700000 := by rw [huA]; exact size_le (by rw [List.length_append] at hall; omega)
          obtain ⟨x1, hx1⟩ : ∃ u, u = S (textBytes x.name) := ⟨_, rfl⟩
          have zx1 : x1.size ≤ 4106 := by rw [hx1]; exact size_le (text_le4 (by omega))
          obtain ⟨x2, hx2⟩ : ∃ u, u = S (listB textBytes x.params) := ⟨_, rfl⟩
          have zx2 : x2.size ≤ 200000 := by rw [hx2]; exact size_le (by have h := listB_le textBytes 4106 32 x.params (fun y hy => text_le4 (hpl y hy)) hp1 (by decide); omega)
          obtain ⟨x3, hx3⟩ : ∃ u, u = S (textBytes x.res) := ⟨_, rfl⟩
          have zx3 : x3.size ≤ 4106 := by rw [hx3]; exact size_le (text_le4 (by omega))
          obtain ⟨x4, hx4⟩ : ∃ u, u = S ([flagByte x.abs]) := ⟨_, rfl⟩
          have zx4 : x4.size ≤ 1 := by rw [hx4]; exact size_le (by simp)
          have HX1 : Hid (∀ W, Calls Tryz.prog 38 #[.string (S x.name)] W (SaidU x1 W)) := Lib.hid (fun W => by rw [hx1]; exact reftext_any x.name W (by omega))
          have HX3 : Hid (∀ W, Calls Tryz.prog 38 #[.string (S x.res)] W (SaidU x3 W)) := Lib.hid (fun W => by rw [hx3]; exact reftext_any x.res W (by omega))
          have HX4 : Hid (∀ W, Calls Tryz.prog 40 #[.bool x.abs] W (SaidU x4 W)) := Lib.hid (fun W => by rw [hx4]; exact (refflag_any x.abs W).mono (fun _ _ h => ⟨h.1, h.2 ▸ Below.refl _ _⟩))
          have HNH : Hid (uA ++ (x1 ++ x2 ++ x3 ++ x4) = S (P ++ x.head)) := Lib.hid (by rw [huA, hx1, hx2, hx3, hx4]; unfold Mth.head; simp only [S_append]; exact congrArg S (by simp))
          rw [← huA]
          have hk0 : (0 : Int) ≤ k := by omega
          have hkn : (k : Int) < (n3 : Int) := by omega
          have HBA := Lib.hid (show Below wr.heap.size wr (wr.alloc (.cells #[.string (S x.name), .slice po x.params.length pc, .string (S x.res), .bool x.abs, .int .i64 x.loc, .slice co x.code.length cc, .slice ko x.cats.length kc] 50)) from (Below.refl _ wr).alloc (Nat.le_refl _) _)
          have HBM := Lib.hid (Box.new wr #[.string (S x.name), .slice po x.params.length pc, .string (S x.res), .bool x.abs, .int .i64 x.loc, .slice co x.code.length cc, .slice ko x.cats.length kc] 50)
          have HX2 : Hid (∀ W, Below W0.heap.size W0 W → Calls Tryz.prog 39 #[.slice po x.params.length pc] W (SaidU x2 W)) := Lib.hid (fun W hW => by rw [hx2]; exact reftexts5_any x.params _ W (StrR.st.below HP.out hW) (by omega) hpl)
          clear hx hkl hcl hp hcd hkt hgm hpl hoW huA hx1 hx2 hx3 hx4 hall
          go_upto_region 11 with fail
          generalize (wr.alloc (.cells #[.string (S x.name), .slice po x.params.length pc, .string (S x.res), .bool x.abs, .int .i64 x.loc, .slice co x.code.length cc, .slice ko x.cats.length kc] 50)) = W2 at HBA HBM ⊢
          generalize wr.heap.size = M at HBM ⊢
          have HB2 := Lib.hid (below_step HB.out HBA.out)
          clear d0 d1 d2 d3 d4 d5 d6 c7
          have HS2 : Hid (∀ W, Below W0.heap.size W0 W → Below W2.heap.size W2 W → W.cell? ⟨M, 0, none⟩ = some (.string (S x.name)) ∧ W.cell? ⟨M, 1, none⟩ = some (.slice po x.params.length pc) ∧ W.cell? ⟨M, 2, none⟩ = some (.string (S x.res)) ∧ W.cell? ⟨M, 3, none⟩ = some (.bool x.abs) ∧ W.cell? ⟨M, 4, none⟩ = some (.int .i64 x.loc) ∧ W.cell? ⟨M, 5, none⟩ = some (.slice co x.code.length cc) ∧ W.cell? ⟨M, 6, none⟩ = some (.slice ko x.cats.length kc)) := Lib.hid (fun W _ hW => by
            have hx := HBM.out.below hW
            exact ⟨hx.cell 0 rfl, hx.cell 1 rfl, hx.cell 2 rfl, hx.cell 3 rfl, hx.cell 4 rfl, hx.cell 5 rfl, hx.cell 6 rfl⟩)
          have HS3 : Hid (∀ W, Below W2.heap.size W2 W → W.cell? ⟨M, 0, none⟩ = some (.string (S x.name)) ∧ W.cell? ⟨M, 1, none⟩ = some (.slice po x.params.length pc) ∧ W.cell? ⟨M, 2, none⟩ = some (.string (S x.res)) ∧ W.cell? ⟨M, 3, none⟩ = some (.bool x.abs)) := Lib.hid (fun W hW => by
            have hx := HBM.out.below hW
            exact ⟨hx.cell 0 rfl, hx.cell 1 rfl, hx.cell 2 rfl, hx.cell 3 rfl⟩)
          have HX2 : Hid (∀ W, Below W2.heap.size W2 W → Calls Tryz.prog 39 #[.slice po x.params.length pc] W (SaidU x2 W)) := Lib.hid (fun W hW => HX2.out W (below_step HB2.out hW))
          obtain ⟨g0, g1, g2, g3⟩ := HS3.out _ (Below.refl _ W2)
          have k0 : ¬ (9223372036854775807 < x1.size + x2.size) := by omega
          have k1 : ¬ (9223372036854775807 < x1.size + x2.size + x3.size) := by omega
          have k2 : ¬ (9223372036854775807 < x1.size + x2.size + x3.size + x4.size) := by omega
          have kz : ¬ (9223372036854775807 < uA.size + (x1.size + x2.size + x3.size + x4.size)) := by omega
          first
          | (go_region_held (fun W => W.cell? ⟨M, 0, none⟩ = some (.string (S x.name)) ∧ W.cell? ⟨M, 1, none⟩ = some (.slice po x.params.length pc) ∧ W.cell? ⟨M, 2, none⟩ = some (.string (S x.res)) ∧ W.cell? ⟨M, 3, none⟩ = some (.bool x.abs)) ((refine HS3.out _ ?_; (repeat (first | (with_reducible exact Below.refl _ _) | (with_reducible assumption) | (with_reducible (apply below_step; rotate_left; assumption)) | (with_reducible refine below_drew ?_)))))
              (first | ((with_reducible refine (HX1.out _).mono ?_); rintro e w' ⟨rfl, b⟩)
                     | ((with_reducible refine (HX2.out _ ?_).mono ?_); (focus ((repeat (first | (with_reducible exact Below.refl _ _) | (with_reducible assumption) | (with_reducible (apply below_step; rotate_left; assumption)) | (with_reducible refine below_drew ?_))); done)); rintro e w' ⟨rfl, b⟩)
                     | ((with_reducible refine (HX3.out _).mono ?_); rintro e w' ⟨rfl, b⟩)
                     | ((with_reducible refine (HX4.out _).mono ?_); rintro e w' ⟨rfl, b⟩)))
          | fail
          have hbE : Below W2.heap.size W2 w' := by (repeat (first | (with_reducible exact Below.refl _ _) | (with_reducible assumption) | (with_reducible (apply below_step; rotate_left; assumption)) | (with_reducible refine below_drew ?_)))
          have HBE := Lib.hid hbE
          clear hbE g0 g1 g2 g3 k0 k1 k2 kz HS2 HS3
          have m3 := (HBM.out.below HBE.out).cell 3 rfl
          cases hab : x.abs
          case true =>
            rw [hab] at m3
            have HNE : Hid (S (P ++ x.bytes) = uA ++ (x1 ++ x2 ++ x3 ++ x4)) := Lib.hid (by rw [HNH.out]; unfold Mth.bytes; rw [hab]; rfl)
            go_wp2
            go_roundw
            case rel => exact ⟨k + 1, by omega, by go_num, by rw [HNB.out, HNE.out], below_step HB2.out HBE.out⟩
            case measure => simp [intOf]; omega
          case false =>
            rw [hab] at m3
            have hreal := HGM.out.real hab
            have hcode := HGM.out.code hab
            have hbt : x.bytes = x.head ++ x.tail := by unfold Mth.bytes; rw [hab]; rfl
            have hsz : (P ++ x.head).length ≤ 6711700000 := by have := HAL.out; rw [hbt] at this; simp only [List.length_append] at this ⊢; omega
            have hzu : (uA ++ (x1 ++ x2 ++ x3 ++ x4)).size ≤ 6711700000 := by rw [HNH.out]; exact size_le hsz
            have hloc0 : 0 ≤ x.loc := by have := hreal.2.2.2; omega
            obtain ⟨y1, hy1⟩ : ∃ u, u = S (Lib.uvarint x.loc.toNat) := ⟨_, rfl⟩
            have zy1 : y1.size ≤ 10 := by rw [hy1]; exact size_le (Lib.uvarint_length64 (by omega))
            obtain ⟨y2, hy2⟩ : ∃ u, u = S (putL x.code) := ⟨_, rfl⟩
            have zy2 : y2.size ≤ 209720010 := by rw [hy2]; exact size_le (putL_le hcode.2 hp3)
            obtain ⟨y3, hy3⟩ : ∃ u, u = S (Lib.uvarint x.cats.length) := ⟨_, rfl⟩
            have zy3 : y3.size ≤ 10 := by rw [hy3]; exact size_le (Lib.uvarint_length64 (by omega))
            have HY1 : Hid (∀ W, Calls Tryz.prog 41 #[.int .i64 x.loc] W (SaidU y1 W)) := Lib.hid (fun W => by rw [hy1]; exact (by have q := refnum5_any x.loc.toNat (by omega) W; rw [Int.toNat_of_nonneg hloc0] at q; exact q))
            have HY3 : Hid (∀ W, Calls Tryz.prog 41 #[.int .i64 (x.cats.length : Nat)] W (SaidU y3 W)) := Lib.hid (fun W => by rw [hy3]; exact refnum5_any _ (by omega) W)
            have HY2 : Hid (∀ W, Below W2.heap.size W2 W → Calls Tryz.prog 42 #[.slice co x.code.length cc] W (SaidU y2 W)) := Lib.hid (fun W hW => by rw [hy2]; exact refput_any x.code _ W (insSrc_of (InsR.st.below HCD.out (below_step HB2.out hW))) hcode.1 hcode.2 (by omega))
            have HE3 : Hid (uA ++ (x1 ++ x2 ++ x3 ++ x4) ++ (y1 ++ y2 ++ y3) = S ((P ++ x.head) ++ ((Lib.uvarint x.loc.toNat ++ putL x.code) ++ Lib.uvarint x.cats.length))) := Lib.hid (by rw [HNH.out, hy1, hy2, hy3]; simp only [S_append])
            obtain ⟨PP, hPP⟩ : ∃ Q, Q = (P ++ x.head) ++ ((Lib.uvarint x.loc.toNat ++ putL x.code) ++ Lib.uvarint x.cats.length) := ⟨_, rfl⟩
            rw [← hPP] at HE3
            have hfin : P ++ x.bytes = PP ++ x.cats.flatMap Cat.bytes := by rw [hPP, hbt]; unfold Mth.tail listB; simp
            have HFI := Lib.hid hfin
            rw [hfin] at HAL
            have HCO : Hid (∀ y ∈ x.cats, Cat.ok x.code.length y = true) := Lib.hid hreal.2.2.1
            clear hbt hsz hreal hcode hy1 hy2 hy3 hPP hfin
            generalize huB : uA ++ (x1 ++ x2 ++ x3 ++ x4) = uB at hzu HE3 ⊢
            clear huB
            obtain ⟨n4, h4⟩ : ∃ n, n = x.cats.length := ⟨_, rfl⟩
            simp only [← h4] at HBM HY3 hp2 ⊢
            have HL4 := Lib.hid h4
            clear h4
            go_upto_region 13 with fail
            clear m3 hab
            have HS4 : Hid (∀ W, Below W2.heap.size W2 W → W.cell? ⟨M, 4, none⟩ = some (.int .i64 x.loc) ∧ W.cell? ⟨M, 5, none⟩ = some (.slice co x.code.length cc) ∧ W.cell? ⟨M, 6, none⟩ = some (.slice ko n4 kc)) := Lib.hid (fun W hW => by
              have hx := HBM.out.below hW
              exact ⟨hx.cell 4 rfl, hx.cell 5 rfl, hx.cell 6 rfl⟩)
            have hB := HBE.out
            obtain ⟨g0, g1, g2⟩ := HS4.out _ hB
            have k0 : ¬ (9223372036854775807 < y1.size + y2.size) := by omega
            have k1 : ¬ (9223372036854775807 < y1.size + y2.size + y3.size) := by omega
            have kz : ¬ (9223372036854775807 < uB.size + (y1.size + y2.size + y3.size)) := by omega
            first
            | (go_region_held (fun W => W.cell? ⟨M, 4, none⟩ = some (.int .i64 x.loc) ∧ W.cell? ⟨M, 5, none⟩ = some (.slice co x.code.length cc) ∧ W.cell? ⟨M, 6, none⟩ = some (.slice ko n4 kc)) ((refine HS4.out _ ?_; (repeat (first | (with_reducible exact Below.refl _ _) | (with_reducible assumption) | (with_reducible (apply below_step; rotate_left; assumption)) | (with_reducible refine below_drew ?_)))))
                (first | ((with_reducible refine (HY1.out _).mono ?_); rintro e w' ⟨rfl, b⟩)
                       | ((with_reducible refine (HY2.out _ ?_).mono ?_); (focus ((repeat (first | (with_reducible exact Below.refl _ _) | (with_reducible assumption) | (with_reducible (apply below_step; rotate_left; assumption)) | (with_reducible refine below_drew ?_))); done)); rintro e w' ⟨rfl, b⟩)
                       | ((with_reducible refine (HY3.out _).mono ?_); rintro e w' ⟨rfl, b⟩)))
            | fail
            have hbF : Below W2.heap.size W2 w' := by (repeat (first | (with_reducible exact Below.refl _ _) | (with_reducible assumption) | (with_reducible (apply below_step; rotate_left; assumption)) | (with_reducible refine below_drew ?_)))
            have HBF := Lib.hid hbF
            clear hbF hB g0 g1 g2 k0 k1 kz HS4 HY1 HY2 HY3
            have m6 := (HBM.out.below HBF.out).cell 6 rfl
            go_wp2
            clear m6
            go_loopw [3, 7] (fun v3 v7 wj => ∃ j : Nat, j ≤ n4 ∧ v7 = .int .i64 j ∧ v3 = .string (S (PP ++ (x.cats.take j).flatMap Cat.bytes)) ∧ Below W2.heap.size W2 wj) (fun _ v7 _ => n4 - (intOf v7).toNat)
            case atStart => exact ⟨0, Nat.zero_le _, rfl, by rw [HE3.out]; simp, HBF.out⟩
            case round =>
              obtain ⟨j, hj, rfl, rfl, hbj⟩ := hrel
              have HBJ := Lib.hid hbj
              have m6 := (HBM.out.below hbj).cell 6 rfl
              have hw0 := below_step HB2.out hbj
              by_cases hlj : j < n4
              · have hjl : j < x.cats.length := by have := HL4.out; omega
                obtain ⟨y, hy⟩ : ∃ y, x.cats[j]? = some y := ⟨_, List.getElem?_eq_getElem hjl⟩
                obtain ⟨b2, o2, v2, rfl, hv2, _, hcl2⟩ := HCK.out j y hy
                obtain rfl := hv2
                have hoJ := Only.ofBelow (S := fun _ => False) hw0
                have e0 := hoJ.cell (a := ⟨b2, o2 + j * 4, none⟩) (hcl2 0 _ rfl) id
                have e1 := hoJ.cell (a := ⟨b2, o2 + j * 4 + 1, none⟩) (hcl2 1 _ rfl) id
                have e2 := hoJ.cell (a := ⟨b2, o2 + j * 4 + 2, none⟩) (hcl2 2 _ rfl) id
                have e3 := hoJ.cell (a := ⟨b2, o2 + j * 4 + 3, none⟩) (hcl2 3 _ rfl) id
                obtain ⟨hf1, hf2, hf3, hcls⟩ := cat_nums (HCO.out y (List.mem_of_getElem? hy)) hp3
                have hcb := classB_len hcls
                have hal := HAL.out
                have htl := flat_take_le Cat.bytes x.cats j
                rw [List.length_append] at hal
                obtain ⟨uC, huC⟩ : ∃ u, u = S (PP ++ (x.cats.take j).flatMap Cat.bytes) := ⟨_, rfl⟩
                have zuC : uC.size ≤ 6711700000 := by rw [huC]; exact size_le (by rw [List.length_append]; omega)
                obtain ⟨q1, hq1⟩ : ∃ u, u = S (Lib.uvarint y.fr.toNat) := ⟨_, rfl⟩
                have zq1 : q1.size ≤ 10 := by rw [hq1]; exact size_le (Lib.uvarint_length64 (by omega))
                obtain ⟨q2, hq2⟩ : ∃ u, u = S (Lib.uvarint y.till.toNat) := ⟨_, rfl⟩
                have zq2 : q2.size ≤ 10 := by rw [hq2]; exact size_le (Lib.uvarint_length64 (by omega))
                obtain ⟨q3, hq3⟩ : ∃ u, u = S (Lib.uvarint y.at_.toNat) := ⟨_, rfl⟩
                have zq3 : q3.size ≤ 10 := by rw [hq3]; exact size_le (Lib.uvarint_length64 (by omega))
                obtain ⟨q4, hq4⟩ : ∃ u, u = S (textBytes y.cls) := ⟨_, rfl⟩
                have zq4 : q4.size ≤ 4106 := by rw [hq4]; exact size_le (text_le4 (by omega))
                have HQ1 : Hid (∀ W, Calls Tryz.prog 41 #[.int .i64 y.fr] W (SaidU q1 W)) := Lib.hid (fun W => by rw [hq1]; exact (by have q := refnum5_any y.fr.toNat (by omega) W; rw [Int.toNat_of_nonneg hf1.1] at q; exact q))
                have HQ2 : Hid (∀ W, Calls Tryz.prog 41 #[.int .i64 y.till] W (SaidU q2 W)) := Lib.hid (fun W => by rw [hq2]; exact (by have q := refnum5_any y.till.toNat (by omega) W; rw [Int.toNat_of_nonneg hf2.1] at q; exact q))
                have HQ3 : Hid (∀ W, Calls Tryz.prog 41 #[.int .i64 y.at_] W (SaidU q3 W)) := Lib.hid (fun W => by rw [hq3]; exact (by have q := refnum5_any y.at_.toNat (by omega) W; rw [Int.toNat_of_nonneg hf3.1] at q; exact q))
                have HQ4 : Hid (∀ W, Calls Tryz.prog 38 #[.string (S y.cls)] W (SaidU q4 W)) := Lib.hid (fun W => by rw [hq4]; exact reftext_any y.cls W (by omega))
                have HNJ : Hid (S (PP ++ (x.cats.take (j + 1)).flatMap Cat.bytes) = uC ++ (q1 ++ q2 ++ q3 ++ q4)) := Lib.hid (by rw [flat_next _ _ _ _ hy, huC, hq1, hq2, hq3, hq4]; unfold Cat.bytes; simp only [S_append]; exact congrArg S (by simp))
                rw [← huC]
                have hj0 : (0 : Int) ≤ j := by omega
                have hjn : (j : Int) < (n4 : Int) := by omega
                have HBA2 := Lib.hid (show Below wr.heap.size wr (wr.alloc (.cells #[.int .i64 y.fr, .int .i64 y.till, .int .i64 y.at_, .string (S y.cls)] 69)) from (Below.refl _ wr).alloc (Nat.le_refl _) _)
                have HBQ := Lib.hid (Box.new wr #[.int .i64 y.fr, .int .i64 y.till, .int .i64 y.at_, .string (S y.cls)] 69)
                clear hy hjl hoJ hcl2 hf1 hf2 hf3 hcls hcb hal htl huC hq1 hq2 hq3 hq4 hbj hw0
                go_upto_region 18 with fail
                generalize (wr.alloc (.cells #[.int .i64 y.fr, .int .i64 y.till, .int .i64 y.at_, .string (S y.cls)] 69)) = W4 at HBA2 HBQ ⊢
                generalize wr.heap.size = Q at HBQ ⊢
                clear e0 e1 e2 e3 m6
                have HB4 := Lib.hid (below_step HBJ.out HBA2.out)
                have HS5 : Hid (∀ W, Below W4.heap.size W4 W → W.cell? ⟨Q, 0, none⟩ = some (.int .i64 y.fr) ∧ W.cell? ⟨Q, 1, none⟩ = some (.int .i64 y.till) ∧ W.cell? ⟨Q, 2, none⟩ = some (.int .i64 y.at_) ∧ W.cell? ⟨Q, 3, none⟩ = some (.string (S y.cls))) := Lib.hid (fun W hW => by
                  have hx := HBQ.out.below hW
                  exact ⟨hx.cell 0 rfl, hx.cell 1 rfl, hx.cell 2 rfl, hx.cell 3 rfl⟩)
                obtain ⟨g0, g1, g2, g3⟩ := HS5.out _ (Below.refl _ W4)
                have k0 : ¬ (9223372036854775807 < q1.size + q2.size) := by omega
                have k1 : ¬ (9223372036854775807 < q1.size + q2.size + q3.size) := by omega
                have k2 : ¬ (9223372036854775807 < q1.size + q2.size + q3.size + q4.size) := by omega
                have kz : ¬ (9223372036854775807 < uC.size + (q1.size + q2.size + q3.size + q4.size)) := by omega
                first
                | (go_region_held (fun W => W.cell? ⟨Q, 0, none⟩ = some (.int .i64 y.fr) ∧ W.cell? ⟨Q, 1, none⟩ = some (.int .i64 y.till) ∧ W.cell? ⟨Q, 2, none⟩ = some (.int .i64 y.at_) ∧ W.cell? ⟨Q, 3, none⟩ = some (.string (S y.cls))) ((refine HS5.out _ ?_; (repeat (first | (with_reducible exact Below.refl _ _) | (with_reducible assumption) | (with_reducible (apply below_step; rotate_left; assumption)) | (with_reducible refine below_drew ?_)))))
                    (first | ((with_reducible refine (HQ1.out _).mono ?_); rintro e w' ⟨rfl, b⟩)
                           | ((with_reducible refine (HQ2.out _).mono ?_); rintro e w' ⟨rfl, b⟩)
                           | ((with_reducible refine (HQ3.out _).mono ?_); rintro e w' ⟨rfl, b⟩)
                           | ((with_reducible refine (HQ4.out _).mono ?_); rintro e w' ⟨rfl, b⟩)))
                | fail
                have hbG : Below W4.heap.size W4 w' := by (repeat (first | (with_reducible exact Below.refl _ _) | (with_reducible assumption) | (with_reducible (apply below_step; rotate_left; assumption)) | (with_reducible refine below_drew ?_)))
                have HBG := Lib.hid (below_step HB4.out hbG)
                clear hbG g0 g1 g2 g3 k0 k1 k2 kz HS5
                go_wp2
                go_roundw
                case rel => exact ⟨j + 1, by omega, by go_num, by rw [HNJ.out], HBG.out⟩
                case measure => simp [intOf]; omega
              · obtain rfl : n4 = j := by omega
                rw [HL4.out, List.take_of_length_le (Nat.le_refl _), ← HL4.out]
                have HNB2 : Hid (S (pre1 c ++ (c.mths.take (k + 1)).flatMap Mth.bytes) = S (PP ++ x.cats.flatMap Cat.bytes)) := Lib.hid (by rw [HNB.out, HFI.out])
                obtain ⟨uD, huD⟩ : ∃ u, u = S (PP ++ x.cats.flatMap Cat.bytes) := ⟨_, rfl⟩
                rw [← huD] at HNB2 ⊢
                clear huD hlj hbj hw0
                go_wp2
                go_roundw
                case rel => exact ⟨k + 1, by omega, by go_num, by rw [HNB2.out], below_step HB2.out HBJ.out⟩
                case measure => simp [intOf]; omega
        · obtain rfl : n3 = k := by omega
          rw [HL3.out, List.take_of_length_le (Nat.le_refl _), ← HL3.out]
          rw [pre_bytes] at HR
          obtain ⟨uB, huB⟩ : ∃ u, u = S (pre1 c ++ c.mths.flatMap Mth.bytes) := ⟨_, rfl⟩
          rw [← huB] at HR ⊢
          have HE := Lib.hid (HB0.out.trans (HB.out.mono HB0.out.size))
          clear huB hlt
          go_wp2
          go_ret
          exact ⟨by rw [HR.out]; rfl, HE.out⟩
end Go.Proofs.YtkoiamaoimgjjaaGreatDoor
