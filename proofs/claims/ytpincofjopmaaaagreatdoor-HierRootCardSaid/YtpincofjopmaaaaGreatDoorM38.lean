/-
  The contract of a table's Get.
  The contract of a table's Names.
  The contract of the laws' few of layer 6: some answer, and where it is yes, at most twelve classes.
  What a table is like that New makes: plain mathematics.
  Conditions: as each text of it says.
-/
import Derived.Test.YtpincofjopmaaaaGreatDoorM20
import Derived.Test.YtpincofjopmaaaaGreatDoorM13
import Derived.Test.YtpincofjopmaaaaGreatDoorM37
import Derived.Test.YtpincofjopmaaaaGreatDoorM22
import Derived.Test.YtpincofjopmaaaaGreatDoorM36
namespace Go.Proofs.YtpincofjopmaaaaGreatDoor
open Go.RowKit
def clsZ : Value := .agg #[.string ⟨#[]⟩, .string ⟨#[]⟩, .slice none 0 0, .bool false, .bool false, .bool false, .slice none 0 0, .slice none 0 0]
def GetG6 (es : List Ent) (o : Option Nat) (w : World) (e : Ending) (w' : World) : Prop := Below w.heap.size w w' ∧
  ((o = none ∧ e = .returned (.tuple #[clsZ, .bool false])) ∨ ∃ i x v, o = some i ∧ es[i]? = some x ∧ e = .returned (.tuple #[v, .bool true]) ∧ ClsR (fun k => w.heap.size ≤ k) w' x.cls v)
set_option maxHeartbeats 300000 in
set_option maxRecDepth 100000 in
theorem gett_any {A : Nat → Prop} {B : Nat → Nat} {T mb : Nat} {es : List Ent} {w0 : World} (hT : Tab A w0 T mb B es) (hsm : ∀ (i : Nat) (e : Ent), es[i]? = some e → e.cls.Small) (n : List UInt8) (hn : n.length ≤ 9223372036854775807) (w : World) (hw : Below w0.heap.size w0 w) :
    Calls Tryz.prog 26 #[.pointer (some ⟨T, 0, none⟩), .string (S n)] w (GetG6 es (placeE es n) w) := by
  have hb0 : Below w.heap.size w (w.alloc (.cells #[.string ⟨#[]⟩, .string ⟨#[]⟩, .slice none 0 0, .bool false, .bool false, .bool false, .slice none 0 0, .slice none 0 0] 26)) := below_alloc (Below.refl _ _) _
  have hx := Box.new w #[.string ⟨#[]⟩, .string ⟨#[]⟩, .slice none 0 0, .bool false, .bool false, .bool false, .slice none 0 0, .slice none 0 0] 26
  generalize hW : w.alloc (.cells #[.string ⟨#[]⟩, .string ⟨#[]⟩, .slice none 0 0, .bool false, .bool false, .bool false, .slice none 0 0, .slice none 0 0] 26) = W at hb0 hx
  have HTW := Lib.hid (hT.below (hw.trans (hb0.mono hw.size)))
  have c0 : W.cell? ⟨T, 0, none⟩ = some (.map (some mb)) := HTW.out.box.cell 0 rfl
  have hlk := HTW.out.look n hn
  cases hp : placeE es n with
  | none =>
    rw [hp, ptrV_none] at hlk
    obtain ⟨f0, f1, f2, f3, f4, f5, f6, f7⟩ := free8 hx
    obtain ⟨k0, k1, k2, k3, k4, k5, k6, k7⟩ := cells8 hx
    obtain ⟨y1, y2⟩ := set8 hx (.string ⟨#[]⟩) (.string ⟨#[]⟩) (.slice none 0 0) (.bool false) (.bool false) (.bool false) (.slice none 0 0) (.slice none 0 0)
    obtain ⟨X0, hX0⟩ : ∃ X0, X0 = w.heap.size := ⟨_, rfl⟩
    have hle : w.heap.size ≤ X0 := by omega
    rw [← hX0] at f0 f1 f2 f3 f4 f5 f6 f7 k0 k1 k2 k3 k4 k5 k6 k7 y1 y2
    have HY := Lib.hid y1
    have HB := Lib.hid (hb0.trans (y2.below hb0.size (fun k (q : k = X0) => by omega)))
    clear hT hw hsm hp hb0 hx HTW y1 y2
    go_enter Tryz.func26, Tryz.ntmps26
    go_upto_region 1 with fail
    rw [← hX0]
    clear hW hX0
    go_wp2
    have l := load_box (P := Tryz.prog) (ty := 26) HY.out Tryz.underlying26 rfl sizec_cls
    refine bodyPost_ret (v := .tuple #[clsZ, .bool false]) ?_ rfl ⟨HB.out, .inl ⟨rfl, rfl⟩⟩
    simp only [results, Tryz.results26]
    simp [asAddr, l, clsZ]
  | some i =>
    obtain ⟨x, hx2⟩ : ∃ x, es[i]? = some x := ⟨_, List.getElem?_eq_getElem (placeE_lt hp)⟩
    rw [hp, ptrV_some] at hlk
    obtain ⟨lv, fv, mv, sv, hbx, hl, hf, hm, _⟩ := HTW.out.ent i x hx2
    have HCP := Lib.hid (fun v hv => cp_cls (A := A) x.cls v W hv (hsm i x hx2))
    have hv : ClsR A W x.cls (.agg #[.string (S x.cls.name), .string (S x.cls.sup), lv, .bool x.cls.itf, .bool x.cls.abs, .bool x.cls.fin, fv, mv]) := ⟨_, _, _, rfl, hl, hf, hm⟩
    obtain ⟨lo, lc, rfl⟩ := hl.shape
    obtain ⟨fo, fc, rfl⟩ := hf.shape
    obtain ⟨mo, mc, rfl⟩ := hm.shape
    have HC := Lib.hid (HCP.out _ hv)
    have HB0 := Lib.hid hb0
    have HX := Lib.hid hx
    have q1 : W.cell? ⟨B i, 1, none⟩ = some (.string (S x.cls.name)) := hbx.cell 1 rfl
    have q2 : W.cell? ⟨B i, 2, none⟩ = some (.string (S x.cls.sup)) := hbx.cell 2 rfl
    have q3 : W.cell? ⟨B i, 3, none⟩ = some (.slice lo x.cls.like.length lc) := hbx.cell 3 rfl
    have q4 : W.cell? ⟨B i, 4, none⟩ = some (.bool x.cls.itf) := hbx.cell 4 rfl
    have q5 : W.cell? ⟨B i, 5, none⟩ = some (.bool x.cls.abs) := hbx.cell 5 rfl
    have q6 : W.cell? ⟨B i, 6, none⟩ = some (.bool x.cls.fin) := hbx.cell 6 rfl
    have q7 : W.cell? ⟨B i, 7, none⟩ = some (.slice fo x.cls.flds.length fc) := hbx.cell 7 rfl
    have q8 : W.cell? ⟨B i, 8, none⟩ = some (.slice mo x.cls.mths.length mc) := hbx.cell 8 rfl
    have HI := Lib.hid hx2
    clear hT hw hsm hp hb0 hx hx2 hbx hl hf hm hv HCP HTW
    go_enter Tryz.func26, Tryz.ntmps26
    go_upto_region 1 with fail
    clear hW
    go_wp2_with fail
    with_reducible refine HC.out.mono ?_
    rintro e w1 ⟨v', rfl, hv', hb1⟩
    obtain ⟨l2, f2, m2, rfl, hl2, hf2, hm2⟩ := hv'
    obtain ⟨lo2, lc2, rfl⟩ := hl2.shape
    obtain ⟨fo2, fc2, rfl⟩ := hf2.shape
    obtain ⟨mo2, mc2, rfl⟩ := hm2.shape
    have x1 := HX.out.below hb1
    have hxl := x1.lt
    obtain ⟨g0, g1, g2, g3, g4, g5, g6, g7⟩ := free8 x1
    obtain ⟨k0, k1, k2, k3, k4, k5, k6, k7⟩ := cells8 x1
    obtain ⟨y1, y2⟩ := set8 x1 (.string (S x.cls.name)) (.string (S x.cls.sup)) (.slice lo2 x.cls.like.length lc2) (.bool x.cls.itf) (.bool x.cls.abs) (.bool x.cls.fin) (.slice fo2 x.cls.flds.length fc2) (.slice mo2 x.cls.mths.length mc2)
    have hXW : w.heap.size < W.heap.size := HX.out.lt
    have off : ∀ k, W.heap.size ≤ k → ¬ k = w.heap.size := fun k hk q => by omega
    have r1 := StrR.st.srcMono (A' := fun k => w.heap.size ≤ k) (StrR.st.src hl2 y2 off) (fun k _ (hk : W.heap.size ≤ k) => by show w.heap.size ≤ k; omega)
    have r2 := FldR.st.srcMono (A' := fun k => w.heap.size ≤ k) (FldR.st.src hf2 y2 off) (fun k _ (hk : W.heap.size ≤ k) => by show w.heap.size ≤ k; omega)
    have r3 := MthR.st.srcMono (A' := fun k => w.heap.size ≤ k) (MthR.st.src hm2 y2 off) (fun k _ (hk : W.heap.size ≤ k) => by show w.heap.size ≤ k; omega)
    have hbb := HB0.out.trans (hb1.mono HB0.out.size)
    have HB := Lib.hid (hbb.trans (y2.below hbb.size (fun k (q : k = w.heap.size) => by omega)))
    have HR := Lib.hid (And.intro r1 (And.intro r2 r3))
    have HY := Lib.hid y1
    clear hl2 hf2 hm2 x1 hxl y1 y2 hXW off r1 r2 r3 hbb hb1 q1 q2 q3 q4 q5 q6 q7 q8 HC HX HB0
    obtain ⟨X0, hX0⟩ : ∃ X0, X0 = w.heap.size := ⟨_, rfl⟩
    rw [← hX0] at g0 g1 g2 g3 g4 g5 g6 g7 k0 k1 k2 k3 k4 k5 k6 k7 HY ⊢
    have HX0 := Lib.hid hX0
    clear hX0
    go_wp2
    have l := load_box (P := Tryz.prog) (ty := 26) HY.out Tryz.underlying26 rfl sizec_cls
    have hX0 := HX0.out
    subst hX0
    refine bodyPost_ret (v := .tuple #[.agg #[.string (S x.cls.name), .string (S x.cls.sup), .slice lo2 x.cls.like.length lc2, .bool x.cls.itf, .bool x.cls.abs, .bool x.cls.fin, .slice fo2 x.cls.flds.length fc2, .slice mo2 x.cls.mths.length mc2], .bool true]) ?_ rfl ⟨HB.out, .inr ⟨i, x, _, rfl, HI.out, rfl, _, _, _, rfl, HR.out.1, HR.out.2.1, HR.out.2.2⟩⟩
    simp only [results, Tryz.results26]
    simp [asAddr, l]
end Go.Proofs.YtpincofjopmaaaaGreatDoor
namespace Go.Proofs.YtpincofjopmaaaaGreatDoor
open Go.RowKit
theorem infon_str : (Tryz.prog.info? 9).map (fun i => (i.zero, i.size, i.bytes)) = some (some (.string ⟨#[]⟩), 1, 16) := by kernel_rfl
def nmsL (es : List Ent) : List (List UInt8) := es.map fun e => e.cls.name
def NamesG (es : List Ent) (w : World) (e : Ending) (w' : World) : Prop := ∃ v us, e = .returned v ∧ TRow 1 9 StrR w.heap.size w' v (nmsL es) us ∧ Below w.heap.size w w'
set_option maxHeartbeats 4000000 in
set_option maxRecDepth 100000 in
theorem names_any {A : Nat → Prop} {B : Nat → Nat} {T mb : Nat} {es : List Ent} {w0 : World} (hT : Tab A w0 T mb B es) (hU : ∀ (i : Nat) (e : Ent), es[i]? = some e → placeE es e.cls.name = some i) (hlen : es.length ≤ 1048576) (w : World) (hw : Below w0.heap.size w0 w) :
    Calls Tryz.prog 25 #[.pointer (some ⟨T, 0, none⟩)] w (NamesG es w) := by
  obtain ⟨j0, hji, hz0, hz1, hz2⟩ := info_parts infon_str
  have HO := Lib.hid (inorder_any hT hU hlen w hw)
  have HT := Lib.hid (hT.below hw)
  obtain ⟨n, hn⟩ : ∃ n, n = es.length := ⟨_, rfl⟩
  unfold OrderG at HO
  rw [← hn] at HO hlen
  have HN := Lib.hid hn
  clear hT hU hw hn
  go_enter Tryz.func25, Tryz.ntmps25
  go_wp2_with fail
  with_reducible refine HO.out.mono ?_
  rintro e w1 ⟨g, rfl, hg, hrow, hb1⟩
  have HROW := Lib.hid hrow
  have HB1 := Lib.hid hb1
  have HGL : Hid (g < w1.heap.size) := Lib.hid hrow.lt
  clear hg hrow hb1 HO
  go_wp2
  go_loopw [3, 9] (fun v3 v9 wr => ∃ (k : Nat) (us : List Value), k ≤ n ∧ v9 = .int .i64 k ∧ TRow 1 9 StrR w1.heap.size wr v3 (nmsL (es.take k)) us ∧ Below w1.heap.size w1 wr ∧ MRow wr g n 94 ((List.range n).map (entV B))) (fun _ v9 _ => n - (intOf v9).toNat)
  case atStart => exact ⟨0, [], Nat.zero_le _, rfl, TRow.nil _ _, Below.refl _ _, HROW.out⟩
  case round =>
    obtain ⟨k, us, hk, rfl, hir, hbel, hrw⟩ := hrel
    have HIR := Lib.hid hir
    have HB := Lib.hid hbel
    have HRW := Lib.hid hrw
    have hlen2 : (nmsL (es.take k)).length = k := by unfold nmsL; rw [List.length_map, List.length_take, ← HN.out, Nat.min_eq_left hk]
    obtain ⟨ao, cp, rfl⟩ := hir.shape
    rw [hlen2]
    have HLN := Lib.hid hlen2
    clear hir hbel hrw hlen2
    by_cases hlt : k < n
    · obtain ⟨x, hx⟩ : ∃ x, es[k]? = some x := ⟨_, List.getElem?_eq_getElem (by rw [← HN.out]; exact hlt)⟩
      obtain ⟨_, _, _, _, hbx, _⟩ := (HT.out.below (HB1.out.trans (HB.out.mono HB1.out.size))).ent k x hx
      have HTK : Hid (nmsL (es.take (k + 1)) = nmsL (es.take k) ++ [x.cls.name]) := Lib.hid (by unfold nmsL; rw [List.take_add_one, hx, List.map_append]; rfl)
      have c0 : wr.cell? ⟨g, k, none⟩ = some (.pointer (some ⟨B k, 0, none⟩)) := by
        rw [HRW.out.at_ k hlt, List.getElem?_map, List.getElem?_range hlt]
        rfl
      have c1 : wr.cell? ⟨B k, 1, none⟩ = some (.string (S x.cls.name)) := hbx.cell 1 rfl
      generalize x.cls.name = nm at HTK c1
      clear hbx hx
      have hlt' : (k : Int) < (n : Int) := by omega
      have hk0 : (0 : Int) ≤ (k : Int) := by omega
      have hbA : Below wr.heap.size wr (wr.alloc (.cells #[.string (S nm)] 9)) := (Below.refl _ wr).alloc (Nat.le_refl _) _
      have HRT := Lib.hid (HIR.out.below StrR.st hbA)
      have HNW := Lib.hid (Box.new wr #[.string (S nm)] 9)
      have HRO := Lib.hid HRT.out.row
      rw [HLN.out] at HRO
      have HBA := Lib.hid (HB.out.trans (hbA.mono HB.out.size))
      have HRA := Lib.hid (HRW.out.keep (Only.ofBelow (S := fun _ => False) hbA) id)
      clear hbA
      go_wp2_with (at_builtin; refine wpList_append_fine _ rfl _ _ 22 rfl 9 j0 (.string ⟨#[]⟩) 1 16 Tryz.underlying22 hji hz0 hz1 hz2 rfl (by decide) _ _ _ rfl HRO.out ⟨wr.heap.size, 0, none⟩ 1 1 [.string (S nm)] rfl rfl (by intro j q hj; rw [Addr.add_mid, Nat.zero_add]; exact HNW.out.cell j (by rw [← hj]; simp)) (by intro q hq; simp at hq; rcases hq with rfl; rfl) ?c3 ?c4 ?_)
      case c3 => unfold maxLen; omega
      case c4 => omega
      intro v' w3 hown' hgrow
      have hg' : Grew (wr.alloc (.cells #[.string (S nm)] 9)) (.slice ao (nmsL (es.take k)).length cp) w3 v' := by rw [HLN.out]; exact hgrow
      have ir4 := HRT.out.snoc StrR.st hg' HBA.out.size (x := nm) (u := .string (S nm)) rfl rfl (by rw [HLN.out]; exact hown')
      rw [← HTK.out] at ir4
      have IR4 := Lib.hid ir4
      have HB4 := Lib.hid (HBA.out.trans (hg'.only.below HBA.out.size (fun g hg => HRT.out.own g hg)))
      have HR4 : Hid (MRow w3 g n 94 ((List.range n).map (entV B))) := Lib.hid (HRA.out.keep hg'.only (fun q => by have h1 := HRT.out.own g q; have h2 := HGL.out; omega))
      clear ir4 hgrow hown' hg' c0 c1
      go_wp2
      go_roundw
      case rel => exact ⟨k + 1, _, by omega, by go_num, IR4.out, HB4.out, HR4.out⟩
      case measure => simp [intOf]; omega
    · obtain rfl : k = n := by omega
      go_wp2
      go_ret
      have h : nmsL (es.take k) = nmsL es := by rw [HN.out, List.take_length]
      exact ⟨_, us, rfl, by have q := HIR.out; rw [h] at q; rw [← HLN.out, h]; exact q.lower StrR.st HB1.out.size, HB1.out.trans (HB.out.mono HB1.out.size)⟩
end Go.Proofs.YtpincofjopmaaaaGreatDoor
namespace Go.Proofs.YtpincofjopmaaaaGreatDoor
open Go.RowKit
def Few6G (m : Nat) (w : World) (e : Ending) (w' : World) : Prop := ∃ b, e = .returned (.bool b) ∧ (b = true → m ≤ 12) ∧ Below w.heap.size w w'
set_option maxHeartbeats 8000000 in
set_option maxRecDepth 100000 in
theorem few6_any {A : Nat → Prop} (cs : List Cls) (sv : Value) (w : World) (hs : Src 8 ClsR A w sv cs) (hfit : ∀ c ∈ cs, c.Fit) (hlen : cs.length ≤ 9223372036854775807) :
    Calls Tryz.prog 21 #[sv] w (Few6G cs.length w) := by
  obtain ⟨so, sc, rfl⟩ := hs.shape
  obtain ⟨n, hn⟩ : ∃ n, n = cs.length := ⟨_, rfl⟩
  have HS := Lib.hid hs
  have HFIT := Lib.hid hfit
  rw [← hn] at HS hlen ⊢
  have HN := Lib.hid hn
  clear hs hn hfit
  by_cases h12 : 12 < n
  · have ih12 : 12 < (n : Int) := by omega
    clear h12
    go_enter Tryz.func21, Tryz.ntmps21
    go_wp2
    go_ret
    exact ⟨false, rfl, (fun h => by cases h), Below.refl _ _⟩
  have ih12 : ¬ (12 < (n : Int)) := by omega
  have HM := Lib.hid h12
  clear h12
  go_enter Tryz.func21, Tryz.ntmps21
  go_wp2
  go_loopw [3] (fun v3 wr => ∃ k : Nat, k ≤ n ∧ v3 = .int .i64 k ∧ Below w.heap.size w wr) (fun v3 _ => n - (intOf v3).toNat)
  case atStart => exact ⟨0, Nat.zero_le _, rfl, Below.refl _ _⟩
  case round =>
    obtain ⟨k, hk, rfl, hbw⟩ := hrel
    have HBW := Lib.hid hbw
    clear hbw
    by_cases hlt : k < n
    · obtain ⟨x, hx⟩ : ∃ x, cs[k]? = some x := ⟨_, List.getElem?_eq_getElem (by rw [← HN.out]; exact hlt)⟩
      have hxf := HFIT.out x (List.mem_of_getElem? hx)
      obtain ⟨b, o, v, rfl, hv, _, hcl⟩ := Src.elem (ClsR.st.below HS.out HBW.out) k x hx
      obtain ⟨lv, fv, mv, rfl, hl, hf, hm⟩ := hv
      obtain ⟨lo, lc, rfl⟩ := hl.shape
      obtain ⟨fo, fc, rfl⟩ := hf.shape
      obtain ⟨mo, mc, rfl⟩ := hm.shape
      have d0 : wr.cell? ⟨b, o + k * 8, none⟩ = some (.string (S x.name)) := hcl 0 _ rfl
      have d1 : wr.cell? ⟨b, o + k * 8 + 1, none⟩ = some (.string (S x.sup)) := hcl 1 _ rfl
      have d2 : wr.cell? ⟨b, o + k * 8 + 2, none⟩ = some (.slice lo x.like.length lc) := hcl 2 _ rfl
      have d3 : wr.cell? ⟨b, o + k * 8 + 3, none⟩ = some (.bool x.itf) := hcl 3 _ rfl
      have d4 : wr.cell? ⟨b, o + k * 8 + 4, none⟩ = some (.bool x.abs) := hcl 4 _ rfl
      have d5 : wr.cell? ⟨b, o + k * 8 + 5, none⟩ = some (.bool x.fin) := hcl 5 _ rfl
      have d6 : wr.cell? ⟨b, o + k * 8 + 6, none⟩ = some (.slice fo x.flds.length fc) := hcl 6 _ rfl
      have d7 : wr.cell? ⟨b, o + k * 8 + 7, none⟩ = some (.slice mo x.mths.length mc) := hcl 7 _ rfl
      have hk0 : (0 : Int) ≤ (k : Int) := by omega
      have hkn : (k : Int) < (n : Int) := by omega
      have hn1 := hxf.n1
      have hn2 := hxf.n2
      have hn3 := hxf.n3
      have HXF := Lib.hid hxf
      have hbA : Below wr.heap.size wr (wr.alloc (.cells #[.string (S x.name), .string (S x.sup), .slice lo x.like.length lc, .bool x.itf, .bool x.abs, .bool x.fin, .slice fo x.flds.length fc, .slice mo x.mths.length mc] 26)) := below_alloc (Below.refl _ _) _
      have HBA := Lib.hid (HBW.out.trans (hbA.mono HBW.out.size))
      have HBX := Lib.hid (Box.new wr #[.string (S x.name), .string (S x.sup), .slice lo x.like.length lc, .bool x.itf, .bool x.abs, .bool x.fin, .slice fo x.flds.length fc, .slice mo x.mths.length mc] 26)
      have HMS := Lib.hid (MthR.st.below hm hbA)
      obtain ⟨nm, hnm⟩ : ∃ nm, nm = x.mths.length := ⟨_, rfl⟩
      rw [← hnm] at HBA HBX HMS d7 hn3
      have HNM := Lib.hid hnm
      clear hcl hl hf hm hx hxf hbA hnm
      by_cases h1 : 6 < x.like.length
      · have ih1 : 6 < (x.like.length : Int) := by omega
        clear h1
        go_wp2
        go_ret
        exact ⟨false, rfl, (fun h => by cases h), HBA.out⟩
      have ih1 : ¬ (6 < (x.like.length : Int)) := by omega
      clear h1
      by_cases h2 : 6 < x.flds.length
      · have ih2 : 6 < (x.flds.length : Int) := by omega
        clear h2
        go_wp2
        go_ret
        exact ⟨false, rfl, (fun h => by cases h), HBA.out⟩
      have ih2 : ¬ (6 < (x.flds.length : Int)) := by omega
      clear h2
      by_cases h3 : 6 < nm
      · have ih3 : 6 < (nm : Int) := by omega
        clear h3
        go_wp2
        go_ret
        exact ⟨false, rfl, (fun h => by cases h), HBA.out⟩
      have ih3 : ¬ (6 < (nm : Int)) := by omega
      clear h3
      go_wp2
      clear d0 d1 d2 d3 d4 d5 d6 d7
      generalize hW1 : wr.alloc (.cells #[.string (S x.name), .string (S x.sup), .slice lo x.like.length lc, .bool x.itf, .bool x.abs, .bool x.fin, .slice fo x.flds.length fc, .slice mo nm mc] 26) = W1 at HBA HBX HMS ⊢
      obtain ⟨bx, hbx⟩ : ∃ bx, bx = wr.heap.size := ⟨_, rfl⟩
      rw [← hbx] at HBX ⊢
      clear hW1 hbx
      go_loopw [5] (fun v5 wr2 => ∃ j : Nat, j ≤ nm ∧ v5 = .int .i64 j ∧ Below W1.heap.size W1 wr2) (fun v5 _ => nm - (intOf v5).toNat)
      case atStart => exact ⟨0, Nat.zero_le _, rfl, Below.refl _ _⟩
      case round =>
        obtain ⟨j, hj, rfl, hb2⟩ := hrel
        have HB2 := Lib.hid hb2
        have c7 := (HBX.out.below hb2).cell 7 rfl
        clear hb2
        by_cases hjl : j < nm
        · obtain ⟨m, hm⟩ : ∃ m, x.mths[j]? = some m := ⟨_, List.getElem?_eq_getElem (by rw [← HNM.out]; exact hjl)⟩
          have hmf := HXF.out.mths m (List.mem_of_getElem? hm)
          obtain ⟨b2, o2, v2, rfl, hv2, _, hcl2⟩ := Src.elem (MthR.st.below HMS.out HB2.out) j m hm
          obtain ⟨_, _, _, rfl, ⟨po, pc, rfl⟩, ⟨co, cc, rfl⟩, ⟨ko, kc, rfl⟩⟩ := mth_shape hv2
          have e1 : wr.cell? ⟨b2, o2 + j * 7 + 1, none⟩ = some (.slice po m.params.length pc) := hcl2 1 _ rfl
          have e5 : wr.cell? ⟨b2, o2 + j * 7 + 5, none⟩ = some (.slice co m.code.length cc) := hcl2 5 _ rfl
          have e6 : wr.cell? ⟨b2, o2 + j * 7 + 6, none⟩ = some (.slice ko m.cats.length kc) := hcl2 6 _ rfl
          have hj0 : (0 : Int) ≤ (j : Int) := by omega
          have hjn : (j : Int) < (nm : Int) := by omega
          have hm1 := hmf.n1
          have hm2 := hmf.n2
          have hm3 := hmf.n3
          clear hcl2 hv2 hm hmf
          by_cases h1 : 50 < m.code.length
          · have jh1 : 50 < (m.code.length : Int) := by omega
            clear h1
            go_wp2
            go_ret
            exact ⟨false, rfl, (fun h => by cases h), HBA.out.trans (HB2.out.mono HBA.out.size)⟩
          have jh1 : ¬ (50 < (m.code.length : Int)) := by omega
          clear h1
          by_cases h2 : 8 < m.params.length
          · have jh2 : 8 < (m.params.length : Int) := by omega
            clear h2
            go_wp2
            go_ret
            exact ⟨false, rfl, (fun h => by cases h), HBA.out.trans (HB2.out.mono HBA.out.size)⟩
          have jh2 : ¬ (8 < (m.params.length : Int)) := by omega
          clear h2
          by_cases h3 : 8 < m.cats.length
          · have jh3 : 8 < (m.cats.length : Int) := by omega
            clear h3
            go_wp2
            go_ret
            exact ⟨false, rfl, (fun h => by cases h), HBA.out.trans (HB2.out.mono HBA.out.size)⟩
          have jh3 : ¬ (8 < (m.cats.length : Int)) := by omega
          clear h3
          go_wp2
          go_roundw
          case rel => exact ⟨j + 1, by omega, by go_num, HB2.out⟩
          case measure => simp [intOf]; omega
        · obtain rfl : j = nm := by omega
          go_wp2
          go_roundw
          case rel => exact ⟨k + 1, by omega, by go_num, HBA.out.trans (HB2.out.mono HBA.out.size)⟩
          case measure => simp [intOf]; omega
    · obtain rfl : k = n := by omega
      go_wp2
      go_ret
      exact ⟨true, rfl, (fun _ => by have := HM.out; omega), HBW.out⟩
end Go.Proofs.YtpincofjopmaaaaGreatDoor
namespace Go.Proofs.YtpincofjopmaaaaGreatDoor
open Go.RowKit
theorem visitP_got {es : List Ent} (hp : ParIn es) : ∀ (f : Nat) (s : List Bool × List Nat) (c : Nat), c < es.length → s.1.length = es.length → (visitP es f s c).1.length = es.length ∧ (∀ x ∈ s.2, x ∈ (visitP es f s c).2) := by
  intro f
  induction f with
  | zero => intro s c _ h1; exact ⟨h1, fun x h => h⟩
  | succ f ih =>
    intro s c hc h1
    have fold : ∀ (l : List Nat) (s : List Bool × List Nat), (∀ d ∈ l, d < es.length) → s.1.length = es.length → (l.foldl (visitP es f) s).1.length = es.length ∧ ∀ x ∈ s.2, x ∈ (l.foldl (visitP es f) s).2 := by
      intro l
      induction l with
      | nil => intro s _ h; exact ⟨h, fun x h => h⟩
      | cons d l ihl =>
        intro s hd h
        rw [List.foldl_cons]
        have q := ih s d (hd d List.mem_cons_self) h
        have q2 := ihl (visitP es f s d) (fun y hy => hd y (List.mem_cons_of_mem d hy)) q.1
        exact ⟨q2.1, fun x hx => q2.2 x (q.2 x hx)⟩
    unfold visitP
    split
    · exact ⟨h1, fun x h => h⟩
    · have q := fold (parE es c) (s.1.set c true, s.2) (fun d hd => hp c d hd) (by rw [List.length_set]; exact h1)
      exact ⟨q.1, fun x hx => List.mem_append_left _ (q.2 x hx)⟩
def OnWay (s : List Bool × List Nat) (V : List Nat) : Prop := ∀ x, s.1.getD x false = true → x ∈ s.2 ∨ x ∈ V
theorem visitP_way {es : List Ent} : ∀ (f : Nat) (s : List Bool × List Nat) (c : Nat) (V : List Nat), OnWay s V → OnWay (visitP es f s c) V
  | 0, s, c, V, h => h
  | f + 1, s, c, V, h => by
    have fold : ∀ (l : List Nat) (s : List Bool × List Nat) (V : List Nat), OnWay s V → OnWay (l.foldl (visitP es f) s) V := by
      intro l
      induction l with
      | nil => intro s V h; exact h
      | cons d l ihl => intro s V h; rw [List.foldl_cons]; exact ihl _ V (visitP_way f s d V h)
    unfold visitP
    split
    · exact h
    · have q := fold (parE es c) (s.1.set c true, s.2) (c :: V) (fun x hx => by
        by_cases e : x = c
        · exact .inr (e ▸ List.mem_cons_self)
        · have : s.1.getD x false = true := by
            rw [List.getD_eq_getElem?_getD] at hx ⊢
            rw [List.getElem?_set_ne (fun h => e h.symm)] at hx
            exact hx
          rcases h x this with h1 | h1
          · exact .inl h1
          · exact .inr (List.mem_cons_of_mem c h1))
      intro x hx
      rcases q x hx with h1 | h1
      · exact .inl (List.mem_append_left _ h1)
      · rcases List.mem_cons.1 h1 with e | h2
        · exact .inl (List.mem_append_right _ (by rw [e]; exact List.mem_singleton.2 rfl))
        · exact .inr h2
theorem visitP_own {es : List Ent} (f : Nat) (s : List Bool × List Nat) (c : Nat) (h : OnWay s []) : c ∈ (visitP es (f + 1) s c).2 := by
  unfold visitP
  split
  · rename_i hc
    rcases h c hc with h1 | h1
    · exact h1
    · cases h1
  · exact List.mem_append_right _ (List.mem_singleton.2 rfl)
theorem orderP_all {es : List Ent} (hp : ParIn es) {x : Nat} (hx : x < es.length) : x ∈ orderP es es.length := by
  obtain ⟨f, hf⟩ : ∃ f, es.length = f + 1 := ⟨es.length - 1, by omega⟩
  have fold : ∀ (l : List Nat) (s : List Bool × List Nat), (∀ d ∈ l, d < es.length) → s.1.length = es.length → OnWay s [] → (∀ y ∈ s.2, y ∈ (l.foldl (visitP es es.length) s).2) ∧ ∀ y ∈ l, y ∈ (l.foldl (visitP es es.length) s).2 := by
    intro l
    induction l with
    | nil => intro s _ _ _; exact ⟨fun y h => h, fun y h => (by cases h)⟩
    | cons d l ihl =>
      intro s hd h1 h2
      rw [List.foldl_cons]
      have q := visitP_got hp es.length s d (hd d List.mem_cons_self) h1
      have q2 := ihl (visitP es es.length s d) (fun y hy => hd y (List.mem_cons_of_mem d hy)) q.1 (visitP_way _ s d [] h2)
      refine ⟨fun y hy => q2.1 y (q.2 y hy), fun y hy => ?_⟩
      rcases List.mem_cons.1 hy with e | h
      · rw [e]
        refine q2.1 d ?_
        rw [hf]
        exact visitP_own f s d h2
      · exact q2.2 y h
  exact (fold (List.range es.length) _ (fun d hd => List.mem_range.1 hd) (by simp) (fun x hx => by
    rw [List.getD_eq_getElem?_getD, List.getElem?_replicate] at hx
    split at hx <;> cases hx)).2 x (List.mem_range.2 hx)
structure Wise (es : List Ent) : Prop where
  sh : Shape es
  ac : Acyc es
  par : ParIn es
  uq : Uniq es
  cl : ∀ (i : Nat) (e : Ent), es[i]? = some e → classB e.cls.name = true
  obj : es[0]? = some ⟨objC, none, []⟩
  flt : es[1]? = some ⟨faultC, some 0, []⟩
  up : ∀ (i : Nat) (e : Ent), es[i]? = some e → i ≠ 0 → ∃ j, e.up = some j
  lk : ∀ (i : Nat) (e : Ent), es[i]? = some e → ∀ k ∈ e.lk, itfAt es k = true
  itf : ∀ (i : Nat) (e : Ent), es[i]? = some e → e.cls.itf = true → e.up = some 0 ∧ e.cls.flds = [] ∧ ∀ m ∈ e.cls.mths, m.abs = true
  sup : ∀ (i : Nat) (e : Ent) (j : Nat), es[i]? = some e → e.up = some j → itfAt es j = false
  mth : ∀ (i : Nat) (e : Ent), es[i]? = some e → (e.cls.mths.map Mth.name).Nodup
  fld : ∀ (i : Nat) (e : Ent), es[i]? = some e → (e.cls.flds.map Fld.name).Nodup
  good : GoodT es
theorem freshAt_ne {l : List (List UInt8)} (h : distB l = true) : l.Nodup := by
  unfold distB distTo at h
  rw [List.all_eq_true] at h
  rw [List.nodup_iff_pairwise_ne, List.pairwise_iff_getElem]
  intro i j hi hj hij he
  have h1 := h j (List.mem_range.2 hj)
  unfold freshAt at h1
  rw [Bool.not_eq_true', List.any_eq_false] at h1
  refine h1 l[i] ?_ ?_
  · rw [List.mem_iff_getElem]
    exact ⟨i, by rw [List.length_take]; omega, by rw [List.getElem_take]⟩
  · rw [List.getD_eq_getElem?_getD, List.getElem?_eq_getElem hj, he]
    simp
theorem start_wise : ∀ i, i < 8 → ∀ e, startL[i]? = some e → classB e.cls.name = true ∧ (i ≠ 0 → e.up.isSome = true) ∧ e.lk = [] ∧ e.cls.itf = false ∧ (∀ j, e.up = some j → j < 2) ∧ e.cls.mths = [] ∧ e.cls.flds.length ≤ 1 := by
  have h : startL.all (fun e => classB e.cls.name && (decide (e.lk = []) && (decide (e.cls.itf = false) && (decide (e.cls.mths.length = 0) && decide (e.cls.flds.length ≤ 1))))) = true := by decide
  have hu : ∀ i, i < 8 → (i = 0 ∨ ((startL[i]?).bind Ent.up).isSome = true) ∧ ∀ j, (startL[i]?).bind Ent.up = some j → j < 2 := by decide
  intro i hi e he
  have h1 := List.all_eq_true.1 h e (List.mem_of_getElem? he)
  simp only [Bool.and_eq_true, decide_eq_true_eq] at h1
  obtain ⟨a, b, c, d, f⟩ := h1
  have h2 := hu i hi
  rw [he] at h2
  exact ⟨a, fun h0 => h2.1.resolve_left h0, b, c, h2.2, List.length_eq_zero_iff.1 d, f⟩
theorem Lined.itf_sup {cs : List Cls} (h : Lined cs) {c : Cls} (hc : c ∈ cs) (hi : c.itf = true) : c.sup = objL ∧ c.flds = [] ∧ ∀ m ∈ c.mths, m.abs = true := by
  have h1 := (h.good c hc).parts.2
  unfold Cls.fine at h1
  simp only [Bool.and_eq_true] at h1
  have h2 := h1.2.1
  unfold Cls.sort at h2
  split at h2
  · cases h2
  · split at h2
    · cases h2
    · simp only [Bool.and_eq_true, decide_eq_true_eq, List.all_eq_true] at h2
      exact ⟨h2.2.1, List.length_eq_zero_iff.1 h2.2.2.1, h2.2.2.2⟩
theorem Lined.dist {cs : List Cls} (h : Lined cs) {c : Cls} (hc : c ∈ cs) : (c.flds.map Fld.name).Nodup ∧ (c.mths.map Mth.name).Nodup := by
  have h1 := (h.good c hc).parts.2
  unfold Cls.fine at h1
  simp only [Bool.and_eq_true] at h1
  have h2 := h1.1
  unfold Cls.names at h2
  simp only [Bool.and_eq_true] at h2
  exact ⟨freshAt_ne h2.2.2.2.2.1, freshAt_ne h2.2.2.2.2.2⟩
theorem newT_start {cs : List Cls} {i : Nat} (hi : i < 8) : (newT cs)[i]? = startL[i]? := by
  unfold newT
  rw [List.getElem?_append_left (by rw [startL_len]; exact hi)]
theorem allE0_start {cs : List Cls} {i : Nat} (hi : i < 8) : (allE0 cs)[i]? = startL[i]? := by
  unfold allE0
  rw [List.getElem?_append_left (by rw [startL_len]; exact hi)]
theorem place_obj {cs : List Cls} : placeE (allE0 cs) objL = some 0 := by
  unfold placeE allE0
  rw [List.findIdx?_append]
  rfl
theorem Lined.wise {cs : List Cls} (h : Lined cs) (hsh : Shape (newT cs)) (hac : Acyc (newT cs)) (hg : GoodT (newT cs)) : Wise (newT cs) where
  sh := hsh
  ac := hac
  par := h.par
  uq := h.uniq
  cl := fun i e he => by
    rcases newT_at he with ⟨h1, h2⟩ | ⟨h1, c, h2, rfl⟩
    · exact (start_wise i h1 e h2).1
    · exact (h.good c (List.mem_of_getElem? h2)).name
  obj := newT_start (by omega)
  flt := newT_start (by omega)
  up := fun i e he h0 => by
    rcases newT_at he with ⟨h1, h2⟩ | ⟨h1, c, h2, rfl⟩
    · exact Option.isSome_iff_exists.1 ((start_wise i h1 e h2).2.1 h0)
    · exact Option.isSome_iff_exists.1 (h.ups c (List.mem_of_getElem? h2))
  lk := fun i e he k hk => by
    rcases newT_at he with ⟨h1, h2⟩ | ⟨h1, c, h2, rfl⟩
    · rw [(start_wise i h1 e h2).2.2.1] at hk; cases hk
    · obtain ⟨n, hn1, hn2⟩ := List.mem_map.1 (show k ∈ c.like.map fun n => (likeE (allE0 cs) n).getD 0 from hk)
      have h5 := List.all_eq_true.1 (h.likes c (List.mem_of_getElem? h2)) n hn1
      obtain ⟨j, hj⟩ := Option.isSome_iff_exists.1 h5
      rw [hj] at hn2
      obtain rfl : j = k := hn2
      rw [itfAt_cls (newT_cls cs)]
      exact (likeE_place hj).2
  itf := fun i e he hi => by
    rcases newT_at he with ⟨h1, h2⟩ | ⟨h1, c, h2, rfl⟩
    · rw [(start_wise i h1 e h2).2.2.2.1] at hi; cases hi
    · obtain ⟨a, b, d⟩ := h.itf_sup (List.mem_of_getElem? h2) hi
      refine ⟨?_, b, d⟩
      show upE (allE0 cs) c.sup = some 0
      rw [a]
      unfold upE
      rw [place_obj]
      have h3 : itfAt (allE0 cs) 0 = false := by unfold itfAt; rw [allE0_start (by omega)]; rfl
      have h4 : finAt (allE0 cs) 0 = false := by unfold finAt; rw [allE0_start (by omega)]; rfl
      dsimp only
      rw [h3, h4]
      rfl
  sup := fun i e j he hj => by
    rcases newT_at he with ⟨h1, h2⟩ | ⟨h1, c, h2, rfl⟩
    · have h3 := (start_wise i h1 e h2).2.2.2.2.1 j hj
      have h4 : ∀ j, j < 2 → itfAt startL j = false := by decide
      unfold itfAt
      rw [newT_start (by omega)]
      exact h4 j h3
    · have h3 : upE (allE0 cs) c.sup = some j := hj
      unfold upE at h3
      cases hp : placeE (allE0 cs) c.sup with
      | none => rw [hp] at h3; cases h3
      | some i2 =>
        rw [hp] at h3
        dsimp only at h3
        split at h3
        · cases h3
        · rename_i hn
          obtain rfl := Option.some.inj h3
          rw [itfAt_cls (newT_cls cs)]
          cases hq : itfAt (allE0 cs) i2
          · rfl
          · rw [hq] at hn; exact absurd rfl hn
  mth := fun i e he => by
    rcases newT_at he with ⟨h1, h2⟩ | ⟨h1, c, h2, rfl⟩
    · rw [(start_wise i h1 e h2).2.2.2.2.2.1]; exact List.nodup_nil
    · exact (h.dist (List.mem_of_getElem? h2)).2
  fld := fun i e he => by
    rcases newT_at he with ⟨h1, h2⟩ | ⟨h1, c, h2, rfl⟩
    · have h3 := (start_wise i h1 e h2).2.2.2.2.2.2
      match hf : e.cls.flds, h3 with
      | [], _ => exact List.nodup_nil
      | [f], _ => simp
      | f :: g :: l, h3 => simp at h3
    · exact (h.dist (List.mem_of_getElem? h2)).1
  good := hg
theorem NewOk.wise {cs : List Cls} (h : NewOk cs) : Wise (newT cs) := h.lined.wise h.shape h.acyc h.lined.goodT
theorem NewOk.chk {cs : List Cls} (h : NewOk cs) {i : Nat} (hi : i < (newT cs).length) : chkT (newT cs) i = 0 := h.checks i (orderP_all h.lined.par hi)
end Go.Proofs.YtpincofjopmaaaaGreatDoor
