/-
  The contract of package class's putMethod.
  Conditions: the method may be; its parts lie in memory that was there before; the tables hold what they hold at the start.
-/
import Derived.Test.YtpincofjopmaaaaGreatDoorM25
import Derived.Test.YtpincofjopmaaaaGreatDoorM22
import Derived.Deep.DeepCutAuto
namespace Go.Proofs.YtpincofjopmaaaaGreatDoor
open Go.RowKit
attribute [local go_sem ↓] Go.wp_at_zero Go.wp_at_succ
/-- Bytes of the call's own in a slot. -/
def HeadAt (w W0 : World) (l : List UInt8) (s : Value) (wx : World) : Prop := ∃ ao m c, s = .slice ao m c ∧ BS w wx (.slice ao m c) l ∧ Below W0.heap.size W0 wx
set_option maxHeartbeats 40000000 in
set_option maxRecDepth 100000 in
theorem putmethod_any {A : Nat → Prop} (m : Mth) (v : Value) (w : World) (hv : MthR A w m v) (hg : m.Good) (hT : CT w) :
    Calls Tryz.prog 148 #[v] w (Bytes' w m.bytes) := by
  obtain ⟨pv, cv, kv, rfl, hp, hcd, hkt⟩ := hv
  obtain ⟨po, pc, rfl⟩ := hp.shape
  obtain ⟨co, cc, rfl⟩ := hcd.shape
  obtain ⟨ko, kc, rfl⟩ := hkt.shape
  have hl1 := memB_len hg.name
  have hl2 := hg.res_len
  have hb1 := text_le m.name 32 hl1 (by decide)
  have hb2 := text_le m.res 38 hl2 (by decide)
  have hb3 := listB_le textBytes 48 32 m.params (fun x hx => text_le x 38 (right_len (hg.params x hx)) (by decide)) hg.nums.1 (by decide)
  have hb4 := hg.head_le
  have HT1 : Hid (∀ X W, W.cell? ⟨X, 0, none⟩ = some (.string (S m.name)) → Calls Tryz.prog 141 #[.slice (some ⟨X, 0, none⟩) 1 1] W (Mk (textBytes m.name) W)) := Lib.hid (fun X W h0 =>
    (ctexts_any [m.name] X 0 1 W (World.block_lt_of_cell? W _ h0) (fun j hj => by
      match j, hj with
      | 0, _ => simpa using h0
      | j + 1, hj => exact absurd hj (by simp)) (by simp [textsMost]; omega) (by simp [texts]; omega)).mono fun _ _ h => by
        have q := mk_of_bytes h
        rw [show texts [m.name] = textBytes m.name from by simp [texts]] at q
        exact q)
  have HT2 : Hid (∀ X W, W.cell? ⟨X, 0, none⟩ = some (.string (S m.res)) → Calls Tryz.prog 141 #[.slice (some ⟨X, 0, none⟩) 1 1] W (Mk (textBytes m.res) W)) := Lib.hid (fun X W h0 =>
    (ctexts_any [m.res] X 0 1 W (World.block_lt_of_cell? W _ h0) (fun j hj => by
      match j, hj with
      | 0, _ => simpa using h0
      | j + 1, hj => exact absurd hj (by simp)) (by simp [textsMost]; omega) (by simp [texts]; omega)).mono fun _ _ h => by
        have q := mk_of_bytes h
        rw [show texts [m.res] = textBytes m.res from by simp [texts]] at q
        exact q)
  have HFL : Hid (∀ X W, W.cell? ⟨X, 0, none⟩ = some (.bool m.abs) → Calls Tryz.prog 144 #[.slice (some ⟨X, 0, none⟩) 1 1] W (Mk [flagByte m.abs] W)) := Lib.hid (fun X W h0 =>
    (cflags_any [m.abs] X 0 1 W (World.block_lt_of_cell? W _ h0) (fun j hj => by
      match j, hj with
      | 0, _ => simpa using h0
      | j + 1, hj => exact absurd hj (by simp)) (by simp) (by simp)).mono fun _ _ h => mk_of_bytes h)
  have HCO : Hid (∀ V v0 v1 v2 v3, Src 1 ByteR Anyw V v0 (textBytes m.name) → Src 1 ByteR Anyw V v1 (listB textBytes m.params) → Src 1 ByteR Anyw V v2 (textBytes m.res) → Src 1 ByteR Anyw V v3 ([flagByte m.abs]) → Calls Tryz.prog 140 #[.slice (some ⟨V.heap.size, 0, none⟩) 4 4] (V.alloc (.cells #[v0, v1, v2, v3] 71)) (MkB (m.head) V)) := Lib.hid (fun V v0 v1 v2 v3 s0 s1 s2 s3 =>
    cat4_any s0 s1 s2 s3 (by simp; omega))
  have hb0 : Below w.heap.size w (w.alloc (.cells #[.string (S m.name), .slice po m.params.length pc, .string (S m.res), .bool m.abs, .int .i64 m.loc, .slice co m.code.length cc, .slice ko m.cats.length kc] 33)) := (Below.refl _ w).alloc (Nat.le_refl _) _
  have hbx := Box.new w #[.string (S m.name), .slice po m.params.length pc, .string (S m.res), .bool m.abs, .int .i64 m.loc, .slice co m.code.length cc, .slice ko m.cats.length kc] 33
  obtain ⟨W0, hW0⟩ : ∃ W0, W0 = (w.alloc (.cells #[.string (S m.name), .slice po m.params.length pc, .string (S m.res), .bool m.abs, .int .i64 m.loc, .slice co m.code.length cc, .slice ko m.cats.length kc] 33)) := ⟨_, rfl⟩
  rw [← hW0] at hb0 hbx
  have HW0 := Lib.hid hW0
  clear hW0
  have HB0 := Lib.hid hb0
  have HS : Hid (∀ W, Below W0.heap.size W0 W → W.cell? ⟨w.heap.size, 0, none⟩ = some (.string (S m.name)) ∧ W.cell? ⟨w.heap.size, 1, none⟩ = some (.slice po m.params.length pc) ∧ W.cell? ⟨w.heap.size, 2, none⟩ = some (.string (S m.res)) ∧ W.cell? ⟨w.heap.size, 3, none⟩ = some (.bool m.abs) ∧ W.cell? ⟨w.heap.size, 4, none⟩ = some (.int .i64 m.loc) ∧ W.cell? ⟨w.heap.size, 5, none⟩ = some (.slice co m.code.length cc) ∧ W.cell? ⟨w.heap.size, 6, none⟩ = some (.slice ko m.cats.length kc)) := Lib.hid (fun W hW => by
    have hx := hbx.below hW
    exact ⟨hx.cell 0 rfl, hx.cell 1 rfl, hx.cell 2 rfl, hx.cell 3 rfl, hx.cell 4 rfl, hx.cell 5 rfl, hx.cell 6 rfl⟩)
  have HPL : Hid (∀ W, Below W0.heap.size W0 W → Calls Tryz.prog 142 #[.slice po m.params.length pc, .func (.func 210) #[] #[]] W (Mk (listB textBytes m.params) W)) := Lib.hid (fun W hW =>
    (putl_str (A := A) 210 textBytes m.params _ _ (enters_fn Tryz.func210 (by kernel_rfl) rfl) (StrR.st.below (StrR.st.below hp hb0) hW) (fun k x u w' hx _ hu => by
      obtain rfl := hu
      exact pm1_any x w' (by have := right_len (hg.params x (List.mem_of_getElem? hx)); omega)) (by have := hg.nums.1; omega) (by have := flat_le textBytes 48 m.params (fun x hx => text_le x 38 (right_len (hg.params x hx)) (by decide)); have := hg.nums.1; omega)).mono fun _ _ h => mk_of_bytes h)
  have HREST : Hid (m.abs = false → (∀ W, Below W0.heap.size W0 W → Calls Tryz.prog 211 #[.slice co m.code.length cc] W fun e w' => ∃ ao k c, e = .returned (.tuple #[.slice ao k c, .int .i64 0]) ∧ Src 1 ByteR Anyw w' (.slice ao k c) (putL m.code) ∧ Below W.heap.size W w')
      ∧ (∀ X W, W.cell? ⟨X, 0, none⟩ = some (.int .i64 m.loc) → Calls Tryz.prog 208 #[.slice (some ⟨X, 0, none⟩) 1 1] W (Mk (Lib.uvarint m.loc.toNat) W))
      ∧ (∀ W, Below W0.heap.size W0 W → Calls Tryz.prog 212 #[.slice ko m.cats.length kc, .func (.func 213) #[] #[]] W (Mk (listB Cat.bytes m.cats) W))
      ∧ (∀ V v0 v1 v2 v3, Src 1 ByteR Anyw V v0 m.head → Src 1 ByteR Anyw V v1 (Lib.uvarint m.loc.toNat) → Src 1 ByteR Anyw V v2 (putL m.code) → Src 1 ByteR Anyw V v3 (listB Cat.bytes m.cats) → Calls Tryz.prog 140 #[.slice (some ⟨V.heap.size, 0, none⟩) 4 4] (V.alloc (.cells #[v0, v1, v2, v3] 71)) (MkB m.bytes V))) := Lib.hid (fun ha => by
    have hr := hg.real ha
    have hc := hg.code ha
    have hn := hg.nums
    have hlo : (Lib.uvarint m.loc.toNat).length ≤ 10 := Lib.uvarint_length64 (by omega)
    have hpu := putL_le hc.2 hn.2.2.1
    have hca := listB_le Cat.bytes 100 32 m.cats (fun x hx => cat_le (hr.2.2.1 x hx) hn.2.2.1) hn.2.1 (by decide)
    refine ⟨fun W hW => ?_, fun X W h0 => ?_, fun W hW => ?_, fun V v0 v1 v2 v3 s0 s1 s2 s3 => ?_⟩
    · refine (put_any m.code _ W ((hT.keep hb0).keep hW) (insSrc_of (InsR.st.below (InsR.st.below hcd hb0) hW)) (by omega) hc.2).mono fun e w' h => ?_
      obtain ⟨v, he, s⟩ := h.1 hc.1
      obtain ⟨ao, k, c, rfl⟩ := row_shape s.row
      exact ⟨ao, k, c, he, src_of_row s.row, s.bel⟩
    · refine (cnums_any [m.loc.toNat] X 0 1 W (fun j x hx => by
        match j, hx with
        | 0, hx => cases hx; rw [Int.toNat_of_nonneg (by omega)]; simpa using h0
        | j + 1, hx => simp at hx) (fun x hx => by simp at hx; omega) (by simp)).mono fun _ _ h => ?_
      have q := mk_of_bytes h
      rw [show nums [m.loc.toNat] = Lib.uvarint m.loc.toNat from by simp [nums]] at q
      exact q
    · exact (putl_cat (A := A) 213 Cat.bytes m.cats _ _ (enters_fn Tryz.func213 (by kernel_rfl) rfl) (CatR.st.below (CatR.st.below hkt hb0) hW) (fun k x u w' hx _ hu => by
        obtain rfl := hu
        exact putcatch_any x m.code.length w' (hr.2.2.1 x (List.mem_of_getElem? hx)) hn.2.2.1) (by omega) (by have := flat_le Cat.bytes 100 m.cats (fun x hx => cat_le (hr.2.2.1 x hx) hn.2.2.1); omega)).mono fun _ _ h => mk_of_bytes h
    · have q := cat4_any s0 s1 s2 s3 (by omega)
      rw [show m.bytes = m.head ++ (Lib.uvarint m.loc.toNat ++ (putL m.code ++ listB Cat.bytes m.cats)) from by unfold Mth.bytes Mth.tail; rw [ha]; rfl]
      exact q)
  have HABS : Hid (m.abs = true → m.bytes = m.head) := Lib.hid (fun ha => by unfold Mth.bytes; rw [ha]; rfl)
  clear hp hcd hkt hg hT hl1 hl2 hb1 hb2 hb3 hb4 hb0 hbx
  obtain ⟨name, params, res, ab, loc, code, cats⟩ := m
  dsimp only at *
  generalize hL0 : textBytes name = L0 at *
  generalize hL1 : listB textBytes params = L1 at *
  generalize hL2 : textBytes res = L2 at *
  generalize hL3 : [flagByte ab] = L3 at *
  generalize hLH : Mth.head { name := name, params := params, res := res, abs := ab, loc := loc, code := code, cats := cats } = LH at *
  generalize hLB : Mth.bytes { name := name, params := params, res := res, abs := ab, loc := loc, code := code, cats := cats } = LB at *
  generalize hLN : Lib.uvarint loc.toNat = LN at *
  generalize hLP : putL code = LP at *
  generalize hLC : listB Cat.bytes cats = LC at *
  clear hL0 hL1 hL2 hL3 hLH hLB hLN hLP hLC
  generalize params.length = n1 at *
  generalize code.length = n2 at *
  generalize cats.length = n3 at *
  go_enter Tryz.func148, Tryz.ntmps148
  go_upto_region 1 with fail
  rw [← HW0.out]
  clear HW0
  generalize w.heap.size = B at HS ⊢
  go_cut [3] (HeadAt w W0 LH)
  case first =>
    obtain ⟨g0, g1, g2, g3, g4, g5, g6⟩ := HS.out _ (Below.refl _ W0)
    first
    | (go_region_held (fun W => W.cell? ⟨B, 0, none⟩ = some (.string (S name)) ∧ W.cell? ⟨B, 1, none⟩ = some (.slice po n1 pc) ∧ W.cell? ⟨B, 2, none⟩ = some (.string (S res)) ∧ W.cell? ⟨B, 3, none⟩ = some (.bool ab) ∧ W.cell? ⟨B, 4, none⟩ = some (.int .i64 loc) ∧ W.cell? ⟨B, 5, none⟩ = some (.slice co n2 cc) ∧ W.cell? ⟨B, 6, none⟩ = some (.slice ko n3 kc)) ((refine HS.out _ ?_; (repeat (first | (with_reducible exact Below.refl _ _) | (with_reducible (apply below_step; rotate_left; assumption)) | (with_reducible refine below_alloc ?_ _) | (with_reducible refine below_drew ?_)))))
        (first
         | (go_at_call 141; refine (HT1.out _ _ ?_).mono ?_; (focus ((repeat (first | (simp; done) | (with_reducible (apply cell_step; rotate_left; assumption)) | ((with_reducible refine cell_new ?_ ?_); (focus (simp; done)); (focus (simp; done))) | (with_reducible refine cell_drew ?_) | (with_reducible refine cell_alloc ?_ _))); done)); rintro e w' ⟨ao, m, c, rfl, s, b⟩)
         | (go_at_call 141; refine (HT2.out _ _ ?_).mono ?_; (focus ((repeat (first | (simp; done) | (with_reducible (apply cell_step; rotate_left; assumption)) | ((with_reducible refine cell_new ?_ ?_); (focus (simp; done)); (focus (simp; done))) | (with_reducible refine cell_drew ?_) | (with_reducible refine cell_alloc ?_ _))); done)); rintro e w' ⟨ao, m, c, rfl, s, b⟩)
         | (go_at_call 144; refine (HFL.out _ _ ?_).mono ?_; (focus ((repeat (first | (simp; done) | (with_reducible (apply cell_step; rotate_left; assumption)) | ((with_reducible refine cell_new ?_ ?_); (focus (simp; done)); (focus (simp; done))) | (with_reducible refine cell_drew ?_) | (with_reducible refine cell_alloc ?_ _))); done)); rintro e w' ⟨ao, m, c, rfl, s, b⟩)
         | (go_at_call 142; refine (HPL.out _ ?_).mono ?_; (focus ((repeat (first | (with_reducible exact Below.refl _ _) | (with_reducible (apply below_step; rotate_left; assumption)) | (with_reducible refine below_alloc ?_ _) | (with_reducible refine below_drew ?_))); done)); rintro e w' ⟨ao, m, c, rfl, s, b⟩)
         | (go_at_call 140; refine (HCO.out _ _ _ _ _ ?_ ?_ ?_ ?_).mono ?_; (focus ((repeat (first | (with_reducible assumption) | (with_reducible (apply src_step; rotate_left; assumption)) | (with_reducible refine src_alloc ?_ _) | (with_reducible refine src_drew ?_))); done)); (focus ((repeat (first | (with_reducible assumption) | (with_reducible (apply src_step; rotate_left; assumption)) | (with_reducible refine src_alloc ?_ _) | (with_reducible refine src_drew ?_))); done)); (focus ((repeat (first | (with_reducible assumption) | (with_reducible (apply src_step; rotate_left; assumption)) | (with_reducible refine src_alloc ?_ _) | (with_reducible refine src_drew ?_))); done)); (focus ((repeat (first | (with_reducible assumption) | (with_reducible (apply src_step; rotate_left; assumption)) | (with_reducible refine src_alloc ?_ _) | (with_reducible refine src_drew ?_))); done)); rintro e w' ⟨ao, m, c, rfl, s⟩; have b := s.bel)))
    | fail
    all_goals (go_wp2_with fail; go_meet; exact ⟨_, _, _, rfl, s.le (by (repeat (first | (with_reducible exact HB0.out) | (with_reducible (apply below_step; rotate_left; assumption)) | (with_reducible refine below_alloc ?_ _) | (with_reducible refine below_drew ?_)))), (by (focus ((repeat (first | (with_reducible exact Below.refl _ _) | (with_reducible (apply below_step; rotate_left; assumption)) | (with_reducible refine below_alloc ?_ _) | (with_reducible refine below_drew ?_))); done)))⟩)
  case rest =>
    obtain ⟨ao3, m3, c3, rfl, hs3, hb3⟩ := hcut
    have HS3 := Lib.hid hs3
    have HX3 := Lib.hid (src_of_row hs3.row)
    have HB3 := Lib.hid hb3
    clear hs3
    obtain ⟨g0, g1, g2, g3, g4, g5, g6⟩ := HS.out _ hb3
    clear hb3
    cases ab
    case true =>
      have HE := Lib.hid (HABS.out rfl)
      clear g0 g1 g2 g4 g5 g6
      go_wp2
      go_ret
      rw [HE.out]
      exact ⟨_, rfl, HS3.out⟩
    case false =>
      obtain ⟨hcp, hnm, hpc, hcc⟩ := HREST.out rfl
      have HCP := Lib.hid hcp
      have HNM := Lib.hid hnm
      have HPC := Lib.hid hpc
      have HCC := Lib.hid hcc
      clear hcp hnm hpc hcc g0 g1 g2 g4 g6
      go_wp2_with fail
      refine (HCP.out _ HB3.out).mono ?_
      rintro e w4 ⟨ao4, m4, c4, rfl, s4, b4⟩
      clear g3 g5
      go_upto_region 5 with fail
      have sx3 : Src 1 ByteR Anyw wc (.slice ao3 m3 c3) LH := HX3.out
      have hb4 : Below W0.heap.size W0 wc := HB3.out
      obtain ⟨g0, g1, g2, g3, g4, g5, g6⟩ := HS.out w4 (below_step hb4 b4)
      first
      | (go_region_held (fun W => W.cell? ⟨B, 0, none⟩ = some (.string (S name)) ∧ W.cell? ⟨B, 1, none⟩ = some (.slice po n1 pc) ∧ W.cell? ⟨B, 2, none⟩ = some (.string (S res)) ∧ W.cell? ⟨B, 3, none⟩ = some (.bool false) ∧ W.cell? ⟨B, 4, none⟩ = some (.int .i64 loc) ∧ W.cell? ⟨B, 5, none⟩ = some (.slice co n2 cc) ∧ W.cell? ⟨B, 6, none⟩ = some (.slice ko n3 kc)) ((refine HS.out _ ?_; (repeat (first | (with_reducible exact Below.refl _ _) | (with_reducible (apply below_step; rotate_left; assumption)) | (with_reducible refine below_alloc ?_ _) | (with_reducible refine below_drew ?_)))))
          (first
           | (go_at_call 208; refine (HNM.out _ _ ?_).mono ?_; (focus ((repeat (first | (simp; done) | (with_reducible (apply cell_step; rotate_left; assumption)) | ((with_reducible refine cell_new ?_ ?_); (focus (simp; done)); (focus (simp; done))) | (with_reducible refine cell_drew ?_) | (with_reducible refine cell_alloc ?_ _))); done)); rintro e w' ⟨ao, m, c, rfl, s, b⟩)
           | (go_at_call 212; refine (HPC.out _ ?_).mono ?_; (focus ((repeat (first | (with_reducible exact Below.refl _ _) | (with_reducible (apply below_step; rotate_left; assumption)) | (with_reducible refine below_alloc ?_ _) | (with_reducible refine below_drew ?_))); done)); rintro e w' ⟨ao, m, c, rfl, s, b⟩)
           | (go_at_call 140; refine (HCC.out _ _ _ _ _ ?_ ?_ ?_ ?_).mono ?_; (focus ((repeat (first | (with_reducible assumption) | (with_reducible (apply src_step; rotate_left; assumption)) | (with_reducible refine src_alloc ?_ _) | (with_reducible refine src_drew ?_))); done)); (focus ((repeat (first | (with_reducible assumption) | (with_reducible (apply src_step; rotate_left; assumption)) | (with_reducible refine src_alloc ?_ _) | (with_reducible refine src_drew ?_))); done)); (focus ((repeat (first | (with_reducible assumption) | (with_reducible (apply src_step; rotate_left; assumption)) | (with_reducible refine src_alloc ?_ _) | (with_reducible refine src_drew ?_))); done)); (focus ((repeat (first | (with_reducible assumption) | (with_reducible (apply src_step; rotate_left; assumption)) | (with_reducible refine src_alloc ?_ _) | (with_reducible refine src_drew ?_))); done)); rintro e w' ⟨ao, m, c, rfl, s⟩; have b := s.bel)))
      | fail
      all_goals
        go_wp2
        go_ret
        exact ⟨_, rfl, s.le (by (repeat (first | (with_reducible exact HB0.out) | (with_reducible (apply below_step; rotate_left; assumption)) | (with_reducible refine below_alloc ?_ _) | (with_reducible refine below_drew ?_))))⟩
end Go.Proofs.YtpincofjopmaaaaGreatDoor
