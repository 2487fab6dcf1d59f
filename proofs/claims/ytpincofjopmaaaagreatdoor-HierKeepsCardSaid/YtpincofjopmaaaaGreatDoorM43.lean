/-
  The contract of a table's Method: the class that the method is of, and a copy of it.
  Conditions: as each text of it says.
-/
import Derived.Test.YtpincofjopmaaaaGreatDoorM20
import Derived.Test.YtpincofjopmaaaaGreatDoorM18
import Derived.Test.YtpincofjopmaaaaGreatDoorM37
import Derived.Deep.RegionHeld
import Derived.Deep.DrawnRows
namespace Go.Proofs.YtpincofjopmaaaaGreatDoor
open Go.RowKit
theorem only_step {S : Nat → Prop} {a V W : World} (h : Only S a V) (b : Below V.heap.size V W) : Only S a W := h.trans (Only.ofBelow b)
theorem findM_mem0 {es : List Ent} {o : Option Nat} {n : List UInt8} {r : Nat × Mth} (h : findM es o n = some r) : r.1 ∈ aboveE es o ∧ r.2 ∈ mthsAt es r.1 := by
  unfold findM at h
  obtain ⟨l1, a, l2, h1, h2, _⟩ := List.findSome?_eq_some_iff.1 h
  obtain ⟨m, h3, h4⟩ := Option.map_eq_some_iff.1 h2
  subst h4
  refine ⟨by rw [h1]; simp, ?_⟩
  unfold ownM at h3
  exact List.mem_of_find?_eq_some h3
def mthZ : Value := .agg #[.string ⟨#[]⟩, .slice none 0 0, .string ⟨#[]⟩, .bool false, .int .i64 0, .slice none 0 0, .slice none 0 0]
def MethT (es : List Ent) (r : Option (Nat × Mth)) (w : World) (e : Ending) (w' : World) : Prop := Below w.heap.size w w' ∧
  ((r = none ∧ e = .returned (.tuple #[.string ⟨#[]⟩, mthZ, .bool false])) ∨ ∃ x m v, r = some (x, m) ∧ e = .returned (.tuple #[.string (S (nmE es x)), v, .bool true]) ∧ MthR (fun k => w.heap.size ≤ k) w' m v)
set_option maxHeartbeats 300000 in
set_option maxRecDepth 100000 in
theorem methodt_any {A : Nat → Prop} {B : Nat → Nat} {T mb : Nat} {es : List Ent} {w0 : World} (hT : Tab A w0 T mb B es) (hS : Shape es) (hml : ∀ i, (mthsAt es i).length ≤ 9223372036854775807) (hsm : ∀ i, ∀ m ∈ mthsAt es i, m.Small) (c n : List UInt8) (hc : c.length ≤ 9223372036854775807) (w : World) (hw : Below w0.heap.size w0 w) :
    Calls Tryz.prog 40 #[.pointer (some ⟨T, 0, none⟩), .string (S c), .string (S n)] w (MethT es (findM es (placeE es c) n) w) := by
  have hb0 : Below w.heap.size w (w.alloc (.cells #[.string ⟨#[]⟩, .slice none 0 0, .string ⟨#[]⟩, .bool false, .int .i64 0, .slice none 0 0, .slice none 0 0] 33)) := below_alloc (Below.refl _ _) _
  have hx := Box.new w #[.string ⟨#[]⟩, .slice none 0 0, .string ⟨#[]⟩, .bool false, .int .i64 0, .slice none 0 0, .slice none 0 0] 33
  generalize hW : w.alloc (.cells #[.string ⟨#[]⟩, .slice none 0 0, .string ⟨#[]⟩, .bool false, .int .i64 0, .slice none 0 0, .slice none 0 0] 33) = W at hb0 hx
  have HTW := Lib.hid (hT.below (hw.trans (hb0.mono hw.size)))
  have c0 : W.cell? ⟨T, 0, none⟩ = some (.map (some mb)) := HTW.out.box.cell 0 rfl
  have hlk := HTW.out.look c hc
  have HM := Lib.hid (meth_any hT hS hml (placeE es c) (fun i h => placeE_lt h) n W (hw.trans (hb0.mono hw.size)))
  obtain ⟨q0, hq0⟩ := ptrV_is B (placeE es c)
  rw [hq0] at hlk HM
  unfold MethG at HM
  have HX := Lib.hid hx
  have HB0 := Lib.hid hb0
  obtain ⟨f0, f1, f2, f3, f4, f5, f6⟩ := free7 hx
  obtain ⟨k0, k1, k2, k3, k4, k5, k6⟩ := cells7 hx
  cases hr : findM es (placeE es c) n with
  | none =>
    rw [hr] at HM
    clear hT hS hml hsm hw hb0 hx HTW hq0 hr f0 f1 f2 f3 f4 f5 f6 k0 k1 k2 k3 k4 k5 k6
    go_enter Tryz.func40, Tryz.ntmps40
    go_upto_region 1 with fail
    clear hW
    go_wp2_with fail
    with_reducible refine HM.out.mono ?_
    rintro e w1 ⟨po, pm, rfl, hp, hb1⟩
    obtain rfl : pm = none := hp
    have x1 := HX.out.below hb1
    obtain ⟨f0, f1, f2, f3, f4, f5, f6⟩ := free7 x1
    obtain ⟨k0, k1, k2, k3, k4, k5, k6⟩ := cells7 x1
    obtain ⟨y1, y2⟩ := set7 x1 (.string ⟨#[]⟩) (.slice none 0 0) (.string ⟨#[]⟩) (.bool false) (.int .i64 0) (.slice none 0 0) (.slice none 0 0)
    have hbb := HB0.out.trans (hb1.mono HB0.out.size)
    have HB := Lib.hid (hbb.trans (y2.below hbb.size (fun k (q : k = w.heap.size) => by omega)))
    have HY := Lib.hid y1
    clear hb1 x1 y1 y2 hbb HM HX HB0 c0 hlk
    obtain ⟨X0, hX0⟩ : ∃ X0, X0 = w.heap.size := ⟨_, rfl⟩
    rw [← hX0] at f0 f1 f2 f3 f4 f5 f6 k0 k1 k2 k3 k4 k5 k6 HY ⊢
    have HX0 := Lib.hid hX0
    clear hX0
    go_wp2
    have l := load_box (P := Tryz.prog) (ty := 33) HY.out Tryz.underlying33 rfl sizec_mth
    have hX0 := HX0.out
    subst hX0
    refine bodyPost_ret (v := .tuple #[.string ⟨#[]⟩, mthZ, .bool false]) ?_ rfl ⟨HB.out, .inl ⟨rfl, rfl⟩⟩
    simp only [results, Tryz.results40]
    simp [asAddr, l, mthZ]
  | some r =>
    obtain ⟨x, m⟩ := r
    rw [hr] at HM
    have hmem := findM_mem0 hr
    have hxl : x < es.length := aboveE_lt hS (fun i h => placeE_lt h) x hmem.1
    obtain ⟨ex, hex⟩ : ∃ ex, es[x]? = some ex := ⟨_, List.getElem?_eq_getElem hxl⟩
    have hms : m.Small := hsm x m hmem.2
    have HSM := Lib.hid hms
    have HBX : Hid (B x < w0.heap.size) := Lib.hid (hT.lt hxl)
    have HNX : Hid (nmE es x = ex.cls.name) := Lib.hid (nmE_eq hex)
    have HEN : Hid (∀ W', Below W.heap.size W W' → W'.cell? ⟨B x, 1, none⟩ = some (.string (S ex.cls.name))) := Lib.hid (fun W' hW' => by
      obtain ⟨_, _, _, _, hbx, _⟩ := (HTW.out.below hW').ent x ex hex
      exact hbx.cell 1 rfl)
    clear hT hS hml hsm hb0 hx HTW hq0 hr hmem hxl hms f0 f1 f2 f3 f4 f5 f6 k0 k1 k2 k3 k4 k5 k6
    go_enter Tryz.func40, Tryz.ntmps40
    go_upto_region 1 with fail
    clear hW
    go_wp2_with fail
    with_reducible refine HM.out.mono ?_
    rintro e w1 ⟨po, pm, rfl, ⟨rfl, bm, om, um, hpm, hum, husz, hblt, hucl⟩, hb1⟩
    obtain rfl : pm = some ⟨bm, om, none⟩ := by injection hpm
    have hum1 := MthR.st.keep (A := A) hum (Only.ofBelow (S := fun _ => False) (hw.trans ((HB0.out.trans (hb1.mono HB0.out.size)).mono hw.size))) (fun _ _ => id)
    have hcells : ∀ W', Below w1.heap.size w1 W' → ∀ (j : Nat) u, um.cells[j]? = some u → W'.cell? ⟨bm, om + j, none⟩ = some u := fun W' hW' j u hj =>
      (Only.ofBelow (S := fun _ => False) (hw.trans (((HB0.out.trans (hb1.mono HB0.out.size)).trans (hW'.mono (HB0.out.trans (hb1.mono HB0.out.size)).size)).mono hw.size))).cell (a := ⟨bm, om + j, none⟩) (hucl j u hj) id
    obtain ⟨_, _, _, rfl, ⟨po, pc, rfl⟩, ⟨co, cc, rfl⟩, ⟨ko, kc, rfl⟩⟩ := mth_shape hum1
    have hx0 := HX.out.below hb1
    have hX0l := HX.out.lt
    obtain ⟨X0, hX0⟩ : ∃ X0, X0 = w.heap.size := ⟨_, rfl⟩
    rw [← hX0] at hx0 hX0l ⊢
    have hBx : B x < w.heap.size := Nat.lt_of_lt_of_le HBX.out hw.size
    have hbm : bm < w.heap.size := Nat.lt_of_lt_of_le hblt hw.size
    have HS : Hid (∀ W, Only (fun k => k = X0 ∨ w1.heap.size ≤ k) w1 W → W.cell? ⟨B x, 1, none⟩ = some (.string (S ex.cls.name)) ∧ W.cell? ⟨bm, om, none⟩ = some (.string (S m.name)) ∧ W.cell? ⟨bm, om + 1, none⟩ = some (.slice po m.params.length pc) ∧ W.cell? ⟨bm, om + 2, none⟩ = some (.string (S m.res)) ∧ W.cell? ⟨bm, om + 3, none⟩ = some (.bool m.abs) ∧ W.cell? ⟨bm, om + 4, none⟩ = some (.int .i64 m.loc) ∧ W.cell? ⟨bm, om + 5, none⟩ = some (.slice co m.code.length cc) ∧ W.cell? ⟨bm, om + 6, none⟩ = some (.slice ko m.cats.length kc)) := Lib.hid (fun W hW => by
      have hs1 := hb1.size
      refine ⟨hW.cell (HEN.out w1 hb1) (fun (q : B x = X0 ∨ w1.heap.size ≤ B x) => by rcases q with q | q <;> omega), ?_, ?_, ?_, ?_, ?_, ?_, ?_⟩
      all_goals first
        | exact hW.cell (a := ⟨bm, om, none⟩) (hcells w1 (Below.refl _ _) 0 _ rfl) (fun (q : bm = X0 ∨ w1.heap.size ≤ bm) => by rcases q with q | q <;> omega)
        | exact hW.cell (a := ⟨bm, om + 1, none⟩) (hcells w1 (Below.refl _ _) 1 _ rfl) (fun (q : bm = X0 ∨ w1.heap.size ≤ bm) => by rcases q with q | q <;> omega)
        | exact hW.cell (a := ⟨bm, om + 2, none⟩) (hcells w1 (Below.refl _ _) 2 _ rfl) (fun (q : bm = X0 ∨ w1.heap.size ≤ bm) => by rcases q with q | q <;> omega)
        | exact hW.cell (a := ⟨bm, om + 3, none⟩) (hcells w1 (Below.refl _ _) 3 _ rfl) (fun (q : bm = X0 ∨ w1.heap.size ≤ bm) => by rcases q with q | q <;> omega)
        | exact hW.cell (a := ⟨bm, om + 4, none⟩) (hcells w1 (Below.refl _ _) 4 _ rfl) (fun (q : bm = X0 ∨ w1.heap.size ≤ bm) => by rcases q with q | q <;> omega)
        | exact hW.cell (a := ⟨bm, om + 5, none⟩) (hcells w1 (Below.refl _ _) 5 _ rfl) (fun (q : bm = X0 ∨ w1.heap.size ≤ bm) => by rcases q with q | q <;> omega)
        | exact hW.cell (a := ⟨bm, om + 6, none⟩) (hcells w1 (Below.refl _ _) 6 _ rfl) (fun (q : bm = X0 ∨ w1.heap.size ≤ bm) => by rcases q with q | q <;> omega))
    have HCP : Hid (∀ W, Below w1.heap.size w1 W → Calls Tryz.prog 91 #[.agg #[.string (S m.name), .slice po m.params.length pc, .string (S m.res), .bool m.abs, .int .i64 m.loc, .slice co m.code.length cc, .slice ko m.cats.length kc]] W (fun e w' => ∃ v', e = .returned v' ∧ MthR (fun i => W.heap.size ≤ i) w' m v' ∧ Below W.heap.size W w')) := Lib.hid (fun W hW => cp_mth (A := A) m _ W (MthR.st.keep hum1 (Only.ofBelow (S := fun _ => False) hW) (fun _ _ => id)) HSM.out)
    have HX1 := Lib.hid hx0
    have HBW := Lib.hid (HB0.out.trans (hb1.mono HB0.out.size))
    have HL := Lib.hid (And.intro hX0l hb1.size)
    have HX0 := Lib.hid hX0
    clear hx0 hX0l hX0 hBx hbm hcells hum1 hum hucl hpm husz hblt hb1 HM HEN HX HB0 hw c0 hlk
    go_upto_region 4 with fail
    obtain ⟨g0, g1, g2, g3, g4, g5, g6, g7⟩ := HS.out w1 (Only.refl _ _)
    first
    | (go_region_held3 (fun W => W.cell? ⟨B x, 1, none⟩ = some (.string (S ex.cls.name)) ∧ W.cell? ⟨bm, om, none⟩ = some (.string (S m.name)) ∧ W.cell? ⟨bm, om + 1, none⟩ = some (.slice po m.params.length pc) ∧ W.cell? ⟨bm, om + 2, none⟩ = some (.string (S m.res)) ∧ W.cell? ⟨bm, om + 3, none⟩ = some (.bool m.abs) ∧ W.cell? ⟨bm, om + 4, none⟩ = some (.int .i64 m.loc) ∧ W.cell? ⟨bm, om + 5, none⟩ = some (.slice co m.code.length cc) ∧ W.cell? ⟨bm, om + 6, none⟩ = some (.slice ko m.cats.length kc)) ((refine HS.out _ ?_; (repeat (first | (with_reducible exact Only.refl _ _) | (with_reducible assumption) | (with_reducible refine Only.drew ?_) | (with_reducible refine Only.setCell ?_ (Or.inl rfl) _) | (with_reducible (apply only_step; rotate_left; assumption))))))
        (first | ((go_at_call 91; (with_reducible refine (HCP.out _ ?_).mono ?_); (focus ((repeat (first | (with_reducible exact Below.refl _ _) | (with_reducible refine below_drew ?_))); done)); rintro e w4 ⟨v', rfl, hv', hb4⟩; obtain ⟨_, _, _, rfl, ⟨po2, pc2, rfl⟩, ⟨co2, cc2, rfl⟩, ⟨ko2, kc2, rfl⟩⟩ := mth_shape hv'; have hB4 : Below w1.heap.size w1 w4 := (by (repeat (first | (with_reducible exact Below.refl _ _) | (with_reducible (apply below_step; rotate_left; assumption)) | (with_reducible refine below_drew ?_)))); have HV4 := Lib.hid hv'; have HB4 := Lib.hid hB4; obtain ⟨f0, f1, f2, f3, f4, f5, f6⟩ := free7 (HX1.out.below hB4); obtain ⟨k0, k1, k2, k3, k4, k5, k6⟩ := cells7 (HX1.out.below hB4)))))
    | fail
    all_goals
      obtain ⟨y1, y2⟩ := set7 (HX1.out.below HB4.out) (.string (S m.name)) (.slice po2 m.params.length pc2) (.string (S m.res)) (.bool m.abs) (.int .i64 m.loc) (.slice co2 m.code.length cc2) (.slice ko2 m.cats.length kc2)
      have off : ∀ k, w1.heap.size ≤ k → ¬ k = X0 := fun k hk q => by have := HL.out.1; have := HL.out.2; omega
      have hv5 : MthR (fun k => w.heap.size ≤ k) _ m (.agg #[.string (S m.name), .slice po2 m.params.length pc2, .string (S m.res), .bool m.abs, .int .i64 m.loc, .slice co2 m.code.length cc2, .slice ko2 m.cats.length kc2]) := MthR.st.mono (MthR.st.keep (MthR.st.mono (A' := fun k => w1.heap.size ≤ k) HV4.out (fun k _ (hk : _ ≤ k) => hk)) y2 off) (fun k _ (hk : w1.heap.size ≤ k) => by have := HL.out.2; have := HBW.out.size; show w.heap.size ≤ k; omega)
      have HV5 := Lib.hid hv5
      have hbb := HBW.out.trans (HB4.out.mono HBW.out.size)
      have HB := Lib.hid (hbb.trans (y2.below hbb.size (fun k (q : k = X0) => by have := HX0.out; omega)))
      have HY := Lib.hid y1
      clear y1 y2 off hv5 hbb f0 f1 f2 f3 f4 f5 f6 k0 k1 k2 k3 k4 k5 k6 g0 g1 g2 g3 g4 g5 g6 g7
      go_wp2
      have l := load_box (P := Tryz.prog) (ty := 33) HY.out Tryz.underlying33 rfl sizec_mth
      refine bodyPost_ret (v := .tuple #[.string (S ex.cls.name), .agg #[.string (S m.name), .slice po2 m.params.length pc2, .string (S m.res), .bool m.abs, .int .i64 m.loc, .slice co2 m.code.length cc2, .slice ko2 m.cats.length kc2], .bool true]) ?_ rfl ⟨HB.out, .inr ⟨x, m, _, rfl, by rw [HNX.out], HV5.out⟩⟩
      simp only [results, Tryz.results40]
      simp [asAddr, l]
end Go.Proofs.YtpincofjopmaaaaGreatDoor
