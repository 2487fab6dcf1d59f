/-
  What the rows list of the four tables gives the contracts of layer 6, and a world in which the tables are laid (for the witness that a row asks for).
  Conditions: as each text of it says.
-/
import Derived.Test.YtpincofjopmaaaaGreatDoorM44
import Derived.Test.YtpincofjopmaaaaGreatDoorM27
import Derived.Test.YtpincofjopmaaaaGreatDoorM42
import Derived.Deep.RegionHeld
import Derived.Deep.DrawnRows
import Derived.Deep.QuietTactic
import Derived.BigQuiet
set_option maxHeartbeats 8000000
set_option maxRecDepth 100000
namespace Go.Proofs.YtpincofjopmaaaaGreatDoor
open Go.Shelf Go.RowKit Go.Lib
def faultsData : DataW Unit := .agg (faultsL.map fun n => .lit (.string n))
theorem faults_eq : (Rows.laid_squinch_hier_faults : DataW Unit) = faultsData := by kernel_rfl
theorem faultsL_len : faultsL.length = 6 := rfl
theorem faulttab_of {W : World} (h : VarReads Tryz.prog W "squinch/hier.faults" Rows.laid_squinch_hier_faults) : FaultTab W := by
  rw [faults_eq] at h
  obtain ⟨g, t, cs, fuel, p, hg, hty, hvar, hd⟩ := h
  obtain rfl : 0 = g := Option.some.inj ((show Tryz.prog.globalNamed "squinch/hier.faults" = some 0 by kernel_rfl).symm.trans hg)
  obtain rfl : 124 = t := Option.some.inj ((show (Tryz.prog.globals[0]?).map (·.type) = some 124 by kernel_rfl).symm.trans hty)
  have each : ∀ i (hi : i < faultsL.length), cs.toList[i]? = some (.string (S faultsL[i])) := by
    intro i hi
    obtain ⟨fuel', d, q, hdi, he⟩ := array_elem Tryz.underlying124 hd i (by rw [faultsL_len] at hi; exact hi)
    rw [List.getElem?_map, List.getElem?_eq_getElem hi, Option.map_some, Option.some.injEq] at hdi
    subst hdi
    rw [cells_str1] at he
    obtain ⟨s, e0, q0, _⟩ := DataW.trod_string Tryz.underlying9 he
    have e1 := congrArg (·[0]?) e0
    simp only [List.getElem?_take, List.getElem?_drop] at e1
    have e2 : cs.toList[i]? = some (.string s) := by simpa using e1
    have q1 := congrArg Prod.fst q0
    simp only at q1
    injection q1 with q1
    injection q1 with q1
    rw [e2, q1, S_data]
  intro j v hj
  have hjl : j < faultsL.length := by
    rcases Nat.lt_or_ge j faultsL.length with h | h
    · exact h
    · rw [List.getElem?_eq_none (by unfold faultCells; rw [List.length_map]; exact h)] at hj; cases hj
  have hcell : W.cell? ⟨0, 0 + j, none⟩ = cs.toList[j]? := by
    rw [Nat.zero_add, World.var?_cell hg hvar j, Array.getElem?_toList]
  unfold faultCells at hj
  rw [List.getElem?_map, List.getElem?_eq_getElem hjl, Option.map_some] at hj
  rw [hcell, each j hjl]
  exact hj
noncomputable def laidWorld4 (os : Os) : World :=
  let w0 := World.holding Tryz.prog os ⟨#[], #[], []⟩
  let put (h : Array Obj) (g : Nat) (cs : Array Value) : Array Obj := h.modify g fun
    | .cells _ t frozen => .cells cs t frozen
    | o => o
  let h1 := put w0.heap 2 (Lib.firstTab.map fun z => Value.int .u8 z).toArray
  let h2 := put h1 3 ((List.range 16).flatMap fun i => [Value.int .u8 (Lib.accLo i), Value.int .u8 (Lib.accHi i)]).toArray
  let h3 := put h2 4 opCells.toArray
  let h4 := put h3 0 faultCells.toArray
  { w0 with heap := h4 }
def theLaid4 : List (String × DataW Unit) := [("unicode/utf8.acceptRanges", Rows.laid_unicode_utf8_acceptRanges), ("squinch/code.operators", Rows.laid_squinch_code_operators), ("squinch/hier.faults", Rows.laid_squinch_hier_faults), ("unicode/utf8.first", Rows.laid_unicode_utf8_first)]
structure HT6 (W : World) : Prop where
  ct : CT W
  ft : FaultTab W
theorem ht6_of {W : World} (hL : laidMet Tryz.prog theLaid4 W) : HT6 W :=
  ⟨⟨tabs_of (Lib.laidMet.reads hL (.tail _ (.tail _ (.tail _ (.head _))))) (Lib.laidMet.reads hL (.head _)), optab_of (Lib.laidMet.reads hL (.tail _ (.head _)))⟩, faulttab_of (Lib.laidMet.reads hL (.tail _ (.tail _ (.head _))))⟩
theorem laid_met4 (os : Os) (args : Array Value) : laidMet Tryz.prog theLaid4 ((laidWorld4 os).forCall (fun _ _ => 0) ⟨#[], args, []⟩).memory :=
  (LaidIn.of_run (l := theLaid4) [2, 3, 4, 0] 8 (by kernel_rfl) (by kernel_rfl) (by kernel_rfl) (by kernel_rfl)).met
end Go.Proofs.YtpincofjopmaaaaGreatDoor
namespace Go.Proofs.YtpincofjopmaaaaGreatDoor
open Go.RowKit
theorem hgdN {B : Nat} {w : World} (h : B ≤ w.heap.size) (q : Nat) : Below B w (w.drewN q) := (show Below w.heap.size w (w.drewN q) from ⟨rfl, rfl, rfl, Nat.le_refl _, fun _ _ => rfl⟩).mono h
theorem given_fit : ∀ c ∈ givenL, c.Fit := by
  have h0 : ∀ n : List UInt8, n.length ≤ 100 → ∀ s : List UInt8, s.length ≤ 100 → ∀ (fl : List Fld) (b : Bool), (fl = [] ∨ fl = [⟨whatL, textK, false⟩]) → (⟨n, s, [], false, false, b, fl, []⟩ : Cls).Fit := fun n hn s hs fl b hfl =>
    ⟨by show n.length ≤ _; omega, by show s.length ≤ _; omega, by simp, fun f hf => by rcases hfl with rfl | rfl <;> simp at hf; subst hf; simp [strOk, whatL, textK], by simp, by simp, by rcases hfl with rfl | rfl <;> simp, by simp⟩
  intro c hc
  unfold givenL at hc
  rcases List.mem_cons.1 hc with rfl | hc
  · exact h0 _ (by decide) _ (by decide) _ _ (.inl rfl)
  rcases List.mem_cons.1 hc with rfl | hc
  · exact h0 _ (by decide) _ (by decide) _ _ (.inr rfl)
  obtain ⟨n, hn, rfl⟩ := List.mem_map.1 hc
  exact h0 n ((show ∀ n ∈ faultsL, n.length ≤ 100 by decide) n hn) _ (by decide) _ _ (.inl rfl)
theorem given_eq : ∀ c ∈ givenL, Cls.eqB c c = true := by decide +kernel
theorem given_len : givenL.length = 8 := rfl
theorem hierGiven_any (x : Int) (w : World) (hT : HT6 w) (h0 : -9223372036854775808 ≤ x) (h1 : x ≤ 9223372036854775807) :
    Calls Tryz.prog 10 #[.int .i64 x] w (Said true w) := by
  have HT := Lib.hid hT
  have HX := Lib.hid (And.intro h0 h1)
  clear hT h0 h1
  generalize hxv : x = at_ at HX ⊢
  clear hxv
  go_enter Tryz.func10, Tryz.ntmps10
  go_wp2_with fail
  with_reducible refine (given_any w HT.out.ft).mono ?_
  unfold GivenG
  rintro e w1 ⟨va, us, rfl, ta, hb1⟩
  have HB1 := Lib.hid hb1
  have HTA := Lib.hid ta
  clear hb1 ta
  go_wp2_with fail
  with_reducible refine (rgiven_any w1).mono ?_
  unfold GivenG
  rintro e w2 ⟨vb, us2, rfl, tb, hb2⟩
  have HB2 := Lib.hid hb2
  have HTB := Lib.hid tb
  have HA : Hid (Calls Tryz.prog 22 #[] w2 (Said true w2)) := Lib.hid (awake6_any w2 ((HT.out.ft.keep HB1.out).keep hb2) ((HT.out.ct.keep HB1.out).keep hb2))
  clear hb2 tb
  unfold Said at HA
  obtain ⟨ao, ac, rfl⟩ := HTA.out.shape
  obtain ⟨bo, bc, rfl⟩ := HTB.out.shape
  rw [given_len] at HTA HTB ⊢
  go_wp2_with fail
  with_reducible refine HA.out.mono ?_
  rintro e w3 ⟨rfl, hb3⟩
  have ta3 := (HTA.out.below ClsR.st HB2.out).below ClsR.st hb3
  have tb3 := HTB.out.below ClsR.st hb3
  have HB3 := Lib.hid ((HB1.out.trans (HB2.out.mono HB1.out.size)).trans (hb3.mono (HB1.out.trans (HB2.out.mono HB1.out.size)).size))
  have HSZ := Lib.hid (And.intro HB1.out.size (Nat.le_trans HB2.out.size hb3.size))
  have HLA : Hid (∀ g o, ao = some ⟨g, o, none⟩ → w.heap.size ≤ g ∧ g < w1.heap.size) := Lib.hid (fun g o hg => by
    subst hg
    exact ⟨HTA.out.own g rfl, HTA.out.lt g rfl⟩)
  have HC := Lib.hid (Src.elem (ta3.src ClsR.st))
  have HD := Lib.hid (Src.elem (tb3.src ClsR.st))
  have HSB := Lib.hid (tb3.src ClsR.st)
  have HFZ : Hid (∀ g o, ao = some ⟨g, o, none⟩ → ∃ cur te, w3.heap[g]? = some (.cells cur te (0, 0))) := Lib.hid (fun g o hg => by
    subst hg
    rcases ta3.row.2 with ⟨h0, _⟩ | ⟨g', cap, cur, he, _, hgg, _⟩
    · cases h0
    · cases he
      exact ⟨cur, _, hgg⟩)
  clear ta3 tb3 hb3 HA HTA HTB HB1 HB2
  go_wp2_with fail
  go_loopw [5] (fun vi wr => ∃ k : Nat, k ≤ 8 ∧ vi = .int .i64 k ∧ Below w3.heap.size w3 wr) (fun vi _ => 8 - (intOf vi).toNat)
  case atStart => exact ⟨0, Nat.zero_le _, rfl, Below.refl _ _⟩
  case round =>
    obtain ⟨k, hk, rfl, hbw⟩ := hrel
    have HB := Lib.hid hbw
    clear hbw
    by_cases hlt : k < 8
    · obtain ⟨x, hx⟩ : ∃ x, givenL[k]? = some x := ⟨_, List.getElem?_eq_getElem (by rw [given_len]; exact hlt)⟩
      obtain ⟨b1, o1, ux, hso1, hux, _, hcx⟩ := HC.out k x hx
      obtain ⟨b2, o2, uy, hso2, huy, _, hcy⟩ := HD.out k x hx
      subst hso1 hso2
      have HUX := Lib.hid hux
      have HUY := Lib.hid huy
      obtain ⟨_, _, _, rfl, ⟨lo, lc, rfl⟩, ⟨fo, fc, rfl⟩, ⟨mo, mc, rfl⟩⟩ := cls_shape hux
      obtain ⟨_, _, _, rfl, ⟨lo1, lc1, rfl⟩, ⟨fo1, fc1, rfl⟩, ⟨mo1, mc1, rfl⟩⟩ := cls_shape huy
      have HFX : Hid (∀ W, Below w3.heap.size w3 W → Calls Tryz.prog 19 #[.agg #[.string (S x.name), .string (S x.sup), .slice lo x.like.length lc, .bool x.itf, .bool x.abs, .bool x.fin, .slice fo x.flds.length fc, .slice mo x.mths.length mc], .agg #[.string (S x.name), .string (S x.sup), .slice lo1 x.like.length lc1, .bool x.itf, .bool x.abs, .bool x.fin, .slice fo1 x.flds.length fc1, .slice mo1 x.mths.length mc1]] W (Said true W)) := Lib.hid (fun W hW => by
        have q := refsame5_any (A1 := fun j => w.heap.size ≤ j) (A2 := fun j => w1.heap.size ≤ j) x x _ _ W (ClsR.st.keep HUX.out (Only.ofBelow (S := fun _ => False) hW) (fun _ _ => id)) (ClsR.st.keep HUY.out (Only.ofBelow (S := fun _ => False) hW) (fun _ _ => id)) (given_fit x (List.mem_of_getElem? hx)) (given_fit x (List.mem_of_getElem? hx))
        rw [given_eq x (List.mem_of_getElem? hx)] at q
        exact q)
      have HS : Hid (∀ W, Below w3.heap.size w3 W → W.cell? ⟨b1, o1 + k * 8, none⟩ = some (.string (S x.name)) ∧ W.cell? ⟨b1, o1 + k * 8 + 1, none⟩ = some (.string (S x.sup)) ∧ W.cell? ⟨b1, o1 + k * 8 + 2, none⟩ = some (.slice lo x.like.length lc) ∧ W.cell? ⟨b1, o1 + k * 8 + 3, none⟩ = some (.bool x.itf) ∧ W.cell? ⟨b1, o1 + k * 8 + 4, none⟩ = some (.bool x.abs) ∧ W.cell? ⟨b1, o1 + k * 8 + 5, none⟩ = some (.bool x.fin) ∧ W.cell? ⟨b1, o1 + k * 8 + 6, none⟩ = some (.slice fo x.flds.length fc) ∧ W.cell? ⟨b1, o1 + k * 8 + 7, none⟩ = some (.slice mo x.mths.length mc) ∧ W.cell? ⟨b2, o2 + k * 8, none⟩ = some (.string (S x.name)) ∧ W.cell? ⟨b2, o2 + k * 8 + 1, none⟩ = some (.string (S x.sup)) ∧ W.cell? ⟨b2, o2 + k * 8 + 2, none⟩ = some (.slice lo1 x.like.length lc1) ∧ W.cell? ⟨b2, o2 + k * 8 + 3, none⟩ = some (.bool x.itf) ∧ W.cell? ⟨b2, o2 + k * 8 + 4, none⟩ = some (.bool x.abs) ∧ W.cell? ⟨b2, o2 + k * 8 + 5, none⟩ = some (.bool x.fin) ∧ W.cell? ⟨b2, o2 + k * 8 + 6, none⟩ = some (.slice fo1 x.flds.length fc1) ∧ W.cell? ⟨b2, o2 + k * 8 + 7, none⟩ = some (.slice mo1 x.mths.length mc1)) := Lib.hid (fun W hW => by
        have ho := Only.ofBelow (S := fun _ => False) hW
        exact ⟨ho.cell (a := ⟨b1, o1 + k * 8, none⟩) (hcx 0 _ rfl) id, ho.cell (a := ⟨b1, o1 + k * 8 + 1, none⟩) (hcx 1 _ rfl) id, ho.cell (a := ⟨b1, o1 + k * 8 + 2, none⟩) (hcx 2 _ rfl) id, ho.cell (a := ⟨b1, o1 + k * 8 + 3, none⟩) (hcx 3 _ rfl) id, ho.cell (a := ⟨b1, o1 + k * 8 + 4, none⟩) (hcx 4 _ rfl) id, ho.cell (a := ⟨b1, o1 + k * 8 + 5, none⟩) (hcx 5 _ rfl) id, ho.cell (a := ⟨b1, o1 + k * 8 + 6, none⟩) (hcx 6 _ rfl) id, ho.cell (a := ⟨b1, o1 + k * 8 + 7, none⟩) (hcx 7 _ rfl) id, ho.cell (a := ⟨b2, o2 + k * 8, none⟩) (hcy 0 _ rfl) id, ho.cell (a := ⟨b2, o2 + k * 8 + 1, none⟩) (hcy 1 _ rfl) id, ho.cell (a := ⟨b2, o2 + k * 8 + 2, none⟩) (hcy 2 _ rfl) id, ho.cell (a := ⟨b2, o2 + k * 8 + 3, none⟩) (hcy 3 _ rfl) id, ho.cell (a := ⟨b2, o2 + k * 8 + 4, none⟩) (hcy 4 _ rfl) id, ho.cell (a := ⟨b2, o2 + k * 8 + 5, none⟩) (hcy 5 _ rfl) id, ho.cell (a := ⟨b2, o2 + k * 8 + 6, none⟩) (hcy 6 _ rfl) id, ho.cell (a := ⟨b2, o2 + k * 8 + 7, none⟩) (hcy 7 _ rfl) id⟩)
      have hk0 : (0 : Int) ≤ k := by omega
      have hkn : (k : Int) < 8 := by omega
      clear hx hcx hcy hux huy HLA HSB HFZ
      go_upto_region 7 with fail
      have hB := HB.out
      obtain ⟨g0, g1, g2, g3, g4, g5, g6, g7, g8, g9, g10, g11, g12, g13, g14, g15⟩ := HS.out _ hB
      first
      | (go_region_held (fun W => W.cell? ⟨b1, o1 + k * 8, none⟩ = some (.string (S x.name)) ∧ W.cell? ⟨b1, o1 + k * 8 + 1, none⟩ = some (.string (S x.sup)) ∧ W.cell? ⟨b1, o1 + k * 8 + 2, none⟩ = some (.slice lo x.like.length lc) ∧ W.cell? ⟨b1, o1 + k * 8 + 3, none⟩ = some (.bool x.itf) ∧ W.cell? ⟨b1, o1 + k * 8 + 4, none⟩ = some (.bool x.abs) ∧ W.cell? ⟨b1, o1 + k * 8 + 5, none⟩ = some (.bool x.fin) ∧ W.cell? ⟨b1, o1 + k * 8 + 6, none⟩ = some (.slice fo x.flds.length fc) ∧ W.cell? ⟨b1, o1 + k * 8 + 7, none⟩ = some (.slice mo x.mths.length mc) ∧ W.cell? ⟨b2, o2 + k * 8, none⟩ = some (.string (S x.name)) ∧ W.cell? ⟨b2, o2 + k * 8 + 1, none⟩ = some (.string (S x.sup)) ∧ W.cell? ⟨b2, o2 + k * 8 + 2, none⟩ = some (.slice lo1 x.like.length lc1) ∧ W.cell? ⟨b2, o2 + k * 8 + 3, none⟩ = some (.bool x.itf) ∧ W.cell? ⟨b2, o2 + k * 8 + 4, none⟩ = some (.bool x.abs) ∧ W.cell? ⟨b2, o2 + k * 8 + 5, none⟩ = some (.bool x.fin) ∧ W.cell? ⟨b2, o2 + k * 8 + 6, none⟩ = some (.slice fo1 x.flds.length fc1) ∧ W.cell? ⟨b2, o2 + k * 8 + 7, none⟩ = some (.slice mo1 x.mths.length mc1)) ((refine HS.out _ ?_; (repeat (first | (with_reducible exact hB) | (with_reducible (apply below_step; rotate_left; assumption)) | (with_reducible refine below_alloc ?_ _) | (with_reducible refine below_drew ?_)))))
          (first | ((with_reducible refine (HFX.out _ ?_).mono ?_); (focus ((repeat (first | (with_reducible exact hB) | (with_reducible (apply below_step; rotate_left; assumption)) | (with_reducible refine below_alloc ?_ _) | (with_reducible refine below_drew ?_))); done)); rintro e w4 ⟨rfl, b9⟩)))
      | fail
      have hb9 : Below w3.heap.size w3 w4 := by (repeat (first | (with_reducible exact hB) | (with_reducible (apply below_step; rotate_left; assumption)) | (with_reducible refine below_alloc ?_ _) | (with_reducible refine below_drew ?_)))
      have HB9 := Lib.hid hb9
      clear b9 hb9 hB HFX HS g0 g1 g2 g3 g4 g5 g6 g7 g8 g9 g10 g11 g12 g13 g14 g15
      go_wp2
      go_roundw
      case rel => exact ⟨k + 1, by omega, by go_num, HB9.out⟩
      case measure => simp [intOf]; omega
    · obtain rfl : k = 8 := by omega
      clear hk hlt
      by_cases hin : 0 ≤ at_ ∧ at_ < 8
      case neg =>
        have hq : (at_ < 0 ∨ 8 ≤ at_) := by omega
        have HG := Lib.hid (given_any wr (HT.out.ft.keep (HB3.out.trans (HB.out.mono HB3.out.size))))
        unfold GivenG at HG
        clear hin HC HD HLA HSB HSZ HFZ
        rcases hq with hq | hq
        · have hq2 : ¬ (0 ≤ at_) := by omega
          have hq5 : decide (at_ < 0) = true := decide_eq_true hq
          have hq6 : decide (0 ≤ at_) = false := decide_eq_false hq2
          go_wp2_with fail
          with_reducible refine HG.out.mono ?_
          rintro e w6 ⟨vc, us6, rfl, tc, hb6⟩
          obtain ⟨co, cc, rfl⟩ := tc.shape
          rw [given_len]
          have HB6 := Lib.hid ((HB3.out.trans (HB.out.mono HB3.out.size)).trans (hb6.mono (HB3.out.trans (HB.out.mono HB3.out.size)).size))
          clear tc hb6 HG HB
          go_upto_region 12 with fail
          go_quiet (fail)
          all_goals
            go_wp2
            go_ret
            exact ⟨rfl, HB6.out.trans (hgdN HB6.out.size _)⟩
        · have hq2 : ¬ (at_ < 8) := by omega
          have hq3 : 0 ≤ at_ := by omega
          have hq4 : ¬ (at_ < 0) := by omega
          have hq5 : decide (at_ < 0) = false := decide_eq_false hq4
          have hq6 : decide (8 ≤ at_) = true := decide_eq_true hq
          have hq7 : decide (at_ < 8) = false := decide_eq_false hq2
          go_wp2_with fail
          with_reducible refine HG.out.mono ?_
          rintro e w6 ⟨vc, us6, rfl, tc, hb6⟩
          obtain ⟨co, cc, rfl⟩ := tc.shape
          rw [given_len]
          have HB6 := Lib.hid ((HB3.out.trans (HB.out.mono HB3.out.size)).trans (hb6.mono (HB3.out.trans (HB.out.mono HB3.out.size)).size))
          clear tc hb6 HG HB
          go_upto_region 12 with fail
          go_quiet (fail)
          all_goals
            go_wp2
            go_ret
            exact ⟨rfl, HB6.out.trans (hgdN HB6.out.size _)⟩
      case pos =>
        obtain ⟨k, rfl⟩ := Int.eq_ofNat_of_zero_le hin.1
        have hk8 : k < 8 := by omega
        obtain ⟨x, hx⟩ : ∃ x, givenL[k]? = some x := ⟨_, List.getElem?_eq_getElem (by rw [given_len]; exact hk8)⟩
        obtain ⟨ba, oa, ua, hsoa, hua, _, hca⟩ := HC.out k x hx
        obtain ⟨_, _, _, hua2, _⟩ := hua
        have hla := HLA.out ba oa hsoa
        obtain ⟨cur, te, hfz⟩ := HFZ.out ba oa hsoa
        have f1 : wr.frozen? ⟨ba, oa + k * 8, none⟩ = false := by simp [World.frozen?, (Only.ofBelow (S := fun _ => False) HB.out).heap hfz id]
        have hsz := HSZ.out
        have d0 : wr.cell? ⟨ba, oa + k * 8, none⟩ = some (.string (S x.name)) := (Only.ofBelow (S := fun _ => False) HB.out).cell (a := ⟨ba, oa + k * 8, none⟩) (by have q := hca 0 (.string (S x.name)) (by rw [hua2]; rfl); exact q) id
        have ho : Only (fun j => j = ba) wr (wr.setCell ⟨ba, oa + k * 8, none⟩ (.string ⟨#[120]⟩)) := (Only.refl (fun j => j = ba) wr).setCell (p := ⟨ba, oa + k * 8, none⟩) rfl _
        have hb5 : Below w.heap.size w (wr.setCell ⟨ba, oa + k * 8, none⟩ (.string ⟨#[120]⟩)) := (HB3.out.trans (HB.out.mono HB3.out.size)).setCell (p := ⟨ba, oa + k * 8, none⟩) hla.1 _
        have hsb5 := ClsR.st.src (ClsR.st.below HSB.out HB.out) ho (fun j hj e => by have := hla.2; omega)
        subst hsoa
        have HG := Lib.hid (given_any (wr.setCell ⟨ba, oa + k * 8, none⟩ (.string ⟨#[120]⟩)) (HT.out.ft.keep hb5))
        have HB5 := Lib.hid hb5
        have HSB5 := Lib.hid hsb5
        unfold GivenG at HG
        have hk0 : (0 : Int) ≤ k := by omega
        have hkn : (k : Int) < 8 := by omega
        have hk1 : ¬ ((k : Int) < 0) := by omega
        have hk2 : ¬ (8 ≤ (k : Int)) := by omega
        have hk3 : decide ((k : Int) < 0) = false := decide_eq_false hk1
        have hk4 : decide (8 ≤ (k : Int)) = false := decide_eq_false hk2
        clear hin hca hua2 hla hsz ho hb5 hsb5 HC HD HLA HSB HSZ hk8 hfz HFZ
        go_wp2_with fail
        with_reducible refine HG.out.mono ?_
        rintro e w6 ⟨vc, us6, rfl, tc, hb6⟩
        have hc6 := tc.src ClsR.st
        obtain ⟨co, cc, rfl⟩ := tc.shape
        rw [given_len] at hc6 ⊢
        have HC6 := Lib.hid (Src.elem hc6)
        have HD6 := Lib.hid (Src.elem (ClsR.st.below HSB5.out hb6))
        have HB6 := Lib.hid (HB5.out.trans (hb6.mono HB5.out.size))
        generalize (wr.setCell ⟨ba, oa + k * 8, none⟩ (.string ⟨#[120]⟩)).heap.size = lo6 at HC6
        clear tc hb6 HG HB hc6 HSB5 HB5 d0 f1
        obtain ⟨b1, o1, ux, hso1, hux, _, hcx⟩ := HC6.out k x hx
        obtain ⟨b2, o2, uy, hso2, huy, _, hcy⟩ := HD6.out k x hx
        subst hso1 hso2
        have HUX := Lib.hid hux
        have HUY := Lib.hid huy
        obtain ⟨_, _, _, rfl, ⟨lo, lc, rfl⟩, ⟨fo, fc, rfl⟩, ⟨mo, mc, rfl⟩⟩ := cls_shape hux
        obtain ⟨_, _, _, rfl, ⟨lo1, lc1, rfl⟩, ⟨fo1, fc1, rfl⟩, ⟨mo1, mc1, rfl⟩⟩ := cls_shape huy
        have HFX : Hid (∀ W, Below w6.heap.size w6 W → Calls Tryz.prog 19 #[.agg #[.string (S x.name), .string (S x.sup), .slice lo x.like.length lc, .bool x.itf, .bool x.abs, .bool x.fin, .slice fo x.flds.length fc, .slice mo x.mths.length mc], .agg #[.string (S x.name), .string (S x.sup), .slice lo1 x.like.length lc1, .bool x.itf, .bool x.abs, .bool x.fin, .slice fo1 x.flds.length fc1, .slice mo1 x.mths.length mc1]] W (Said true W)) := Lib.hid (fun W hW => by
          have q := refsame5_any (A1 := fun j => lo6 ≤ j) (A2 := fun j => w1.heap.size ≤ j) x x _ _ W (ClsR.st.keep HUX.out (Only.ofBelow (S := fun _ => False) hW) (fun _ _ => id)) (ClsR.st.keep HUY.out (Only.ofBelow (S := fun _ => False) hW) (fun _ _ => id)) (given_fit x (List.mem_of_getElem? hx)) (given_fit x (List.mem_of_getElem? hx))
          rw [given_eq x (List.mem_of_getElem? hx)] at q
          exact q)
        have HS : Hid (∀ W, Below w6.heap.size w6 W → W.cell? ⟨b1, o1 + k * 8, none⟩ = some (.string (S x.name)) ∧ W.cell? ⟨b1, o1 + k * 8 + 1, none⟩ = some (.string (S x.sup)) ∧ W.cell? ⟨b1, o1 + k * 8 + 2, none⟩ = some (.slice lo x.like.length lc) ∧ W.cell? ⟨b1, o1 + k * 8 + 3, none⟩ = some (.bool x.itf) ∧ W.cell? ⟨b1, o1 + k * 8 + 4, none⟩ = some (.bool x.abs) ∧ W.cell? ⟨b1, o1 + k * 8 + 5, none⟩ = some (.bool x.fin) ∧ W.cell? ⟨b1, o1 + k * 8 + 6, none⟩ = some (.slice fo x.flds.length fc) ∧ W.cell? ⟨b1, o1 + k * 8 + 7, none⟩ = some (.slice mo x.mths.length mc) ∧ W.cell? ⟨b2, o2 + k * 8, none⟩ = some (.string (S x.name)) ∧ W.cell? ⟨b2, o2 + k * 8 + 1, none⟩ = some (.string (S x.sup)) ∧ W.cell? ⟨b2, o2 + k * 8 + 2, none⟩ = some (.slice lo1 x.like.length lc1) ∧ W.cell? ⟨b2, o2 + k * 8 + 3, none⟩ = some (.bool x.itf) ∧ W.cell? ⟨b2, o2 + k * 8 + 4, none⟩ = some (.bool x.abs) ∧ W.cell? ⟨b2, o2 + k * 8 + 5, none⟩ = some (.bool x.fin) ∧ W.cell? ⟨b2, o2 + k * 8 + 6, none⟩ = some (.slice fo1 x.flds.length fc1) ∧ W.cell? ⟨b2, o2 + k * 8 + 7, none⟩ = some (.slice mo1 x.mths.length mc1)) := Lib.hid (fun W hW => by
          have ho := Only.ofBelow (S := fun _ => False) hW
          exact ⟨ho.cell (a := ⟨b1, o1 + k * 8, none⟩) (hcx 0 _ rfl) id, ho.cell (a := ⟨b1, o1 + k * 8 + 1, none⟩) (hcx 1 _ rfl) id, ho.cell (a := ⟨b1, o1 + k * 8 + 2, none⟩) (hcx 2 _ rfl) id, ho.cell (a := ⟨b1, o1 + k * 8 + 3, none⟩) (hcx 3 _ rfl) id, ho.cell (a := ⟨b1, o1 + k * 8 + 4, none⟩) (hcx 4 _ rfl) id, ho.cell (a := ⟨b1, o1 + k * 8 + 5, none⟩) (hcx 5 _ rfl) id, ho.cell (a := ⟨b1, o1 + k * 8 + 6, none⟩) (hcx 6 _ rfl) id, ho.cell (a := ⟨b1, o1 + k * 8 + 7, none⟩) (hcx 7 _ rfl) id, ho.cell (a := ⟨b2, o2 + k * 8, none⟩) (hcy 0 _ rfl) id, ho.cell (a := ⟨b2, o2 + k * 8 + 1, none⟩) (hcy 1 _ rfl) id, ho.cell (a := ⟨b2, o2 + k * 8 + 2, none⟩) (hcy 2 _ rfl) id, ho.cell (a := ⟨b2, o2 + k * 8 + 3, none⟩) (hcy 3 _ rfl) id, ho.cell (a := ⟨b2, o2 + k * 8 + 4, none⟩) (hcy 4 _ rfl) id, ho.cell (a := ⟨b2, o2 + k * 8 + 5, none⟩) (hcy 5 _ rfl) id, ho.cell (a := ⟨b2, o2 + k * 8 + 6, none⟩) (hcy 6 _ rfl) id, ho.cell (a := ⟨b2, o2 + k * 8 + 7, none⟩) (hcy 7 _ rfl) id⟩)
        clear hx hcx hcy hux huy
        go_upto_region 12 with fail
        have hB : Below w6.heap.size w6 w6 := Below.refl _ _
        obtain ⟨g0, g1, g2, g3, g4, g5, g6, g7, g8, g9, g10, g11, g12, g13, g14, g15⟩ := HS.out _ hB
        first
        | (go_region_held (fun W => W.cell? ⟨b1, o1 + k * 8, none⟩ = some (.string (S x.name)) ∧ W.cell? ⟨b1, o1 + k * 8 + 1, none⟩ = some (.string (S x.sup)) ∧ W.cell? ⟨b1, o1 + k * 8 + 2, none⟩ = some (.slice lo x.like.length lc) ∧ W.cell? ⟨b1, o1 + k * 8 + 3, none⟩ = some (.bool x.itf) ∧ W.cell? ⟨b1, o1 + k * 8 + 4, none⟩ = some (.bool x.abs) ∧ W.cell? ⟨b1, o1 + k * 8 + 5, none⟩ = some (.bool x.fin) ∧ W.cell? ⟨b1, o1 + k * 8 + 6, none⟩ = some (.slice fo x.flds.length fc) ∧ W.cell? ⟨b1, o1 + k * 8 + 7, none⟩ = some (.slice mo x.mths.length mc) ∧ W.cell? ⟨b2, o2 + k * 8, none⟩ = some (.string (S x.name)) ∧ W.cell? ⟨b2, o2 + k * 8 + 1, none⟩ = some (.string (S x.sup)) ∧ W.cell? ⟨b2, o2 + k * 8 + 2, none⟩ = some (.slice lo1 x.like.length lc1) ∧ W.cell? ⟨b2, o2 + k * 8 + 3, none⟩ = some (.bool x.itf) ∧ W.cell? ⟨b2, o2 + k * 8 + 4, none⟩ = some (.bool x.abs) ∧ W.cell? ⟨b2, o2 + k * 8 + 5, none⟩ = some (.bool x.fin) ∧ W.cell? ⟨b2, o2 + k * 8 + 6, none⟩ = some (.slice fo1 x.flds.length fc1) ∧ W.cell? ⟨b2, o2 + k * 8 + 7, none⟩ = some (.slice mo1 x.mths.length mc1)) ((refine HS.out _ ?_; (repeat (first | (with_reducible exact hB) | (with_reducible (apply below_step; rotate_left; assumption)) | (with_reducible refine below_alloc ?_ _) | (with_reducible refine below_drew ?_)))))
            (first | ((with_reducible refine (HFX.out _ ?_).mono ?_); (focus ((repeat (first | (with_reducible exact hB) | (with_reducible (apply below_step; rotate_left; assumption)) | (with_reducible refine below_alloc ?_ _) | (with_reducible refine below_drew ?_))); done)); rintro e w7 ⟨rfl, b9⟩)))
        | fail
        all_goals
          have hb9 : Below w6.heap.size w6 w7 := by (repeat (first | (with_reducible exact hB) | (with_reducible (apply below_step; rotate_left; assumption)) | (with_reducible refine below_alloc ?_ _) | (with_reducible refine below_drew ?_)))
          have HB9 := Lib.hid (HB6.out.trans (hb9.mono HB6.out.size))
          clear b9 hb9 hB HFX HS g0 g1 g2 g3 g4 g5 g6 g7 g8 g9 g10 g11 g12 g13 g14 g15
          go_wp2
          go_ret
          exact ⟨rfl, HB9.out⟩
end Go.Proofs.YtpincofjopmaaaaGreatDoor
