/-
  The contracts of slices.IndexFunc and slices.ContainsFunc over methods, at a function that keeps a state of its own.
  Conditions: as each text of it says.
-/
import Derived.Test.YtpincofjopmaaaaGreatDoorM18
import Derived.Test.YtpincofjopmaaaaGreatDoorM11
import Derived.Test.YtpincofjopmaaaaGreatDoorM36
import Derived.Test.YtpincofjopmaaaaGreatDoorM35
set_option maxHeartbeats 8000000
set_option maxRecDepth 100000
namespace Go.Proofs.YtpincofjopmaaaaGreatDoor
open Go.RowKit
def StepsMt (A : Nat → Prop) (F : Nat) (caps : Array Value) (l : List Mth) (J K : Nat → World → Prop) : Prop :=
  ∀ (k : Nat) (x : Mth) (v : Value) (w : World), l[k]? = some x → J k w → MthR A w x v → Calls Tryz.prog F (#[v] ++ caps) w (YesNo (K k) (J (k + 1)))
theorem indexj_mth {A : Nat → Prop} (F : Nat) (caps : Array Value) (l : List Mth) (so : Option Addr) (cp : Nat) (J K : Nat → World → Prop) (w : World) (he : ∀ args w, (callFunc F args).run Tryz.prog w = .ok (.enter F args) w)
    (hst : ∀ k w', J k w' → Src 7 MthR A w' (.slice so l.length cp) l) (h0 : J 0 w) (hF : StepsMt A F caps l J K) (hlen : l.length ≤ 9223372036854775807) :
    Calls Tryz.prog 224 #[.slice so l.length cp, .func (.func F) #[] caps] w (Placed l.length J K) := by
  have HF := Lib.hid hF
  have HE := Lib.hid he
  have HS := Lib.hid hst
  have H0 := Lib.hid h0
  obtain ⟨n, hn⟩ : ∃ n, n = l.length := ⟨_, rfl⟩
  rw [← hn] at hlen ⊢
  simp only [← hn] at HS
  have HN := Lib.hid hn
  clear hF he hst h0 hn
  go_enter Tryz.func224, Tryz.ntmps224
  go_wp2
  go_loopw [8] (fun v8 wr => ∃ k : Nat, k ≤ n ∧ v8 = .int .i64 k ∧ J k wr) (fun v8 _ => n - (intOf v8).toNat)
  case atStart => exact ⟨0, Nat.zero_le _, rfl, H0.out⟩
  case round =>
    obtain ⟨k, hk, rfl, hj⟩ := hrel
    have HJ := Lib.hid hj
    clear hj
    by_cases hlt : k < n
    · have hkl : k < l.length := by have := HN.out; omega
      obtain ⟨x, hx⟩ : ∃ x, l[k]? = some x := ⟨_, List.getElem?_eq_getElem hkl⟩
      obtain ⟨b, o, v, rfl, hv, _, hcl⟩ := Src.elem (HS.out k wr HJ.out) k x hx
      have HV := Lib.hid hv
      obtain ⟨_, _, _, rfl, ⟨po, pc, rfl⟩, ⟨co, cc, rfl⟩, ⟨ko, kc, rfl⟩⟩ := mth_shape hv
      have d0 : wr.cell? ⟨b, o + k * 7, none⟩ = some (.string (S x.name)) := hcl 0 _ rfl
      have d1 : wr.cell? ⟨b, o + k * 7 + 1, none⟩ = some (.slice po x.params.length pc) := hcl 1 _ rfl
      have d2 : wr.cell? ⟨b, o + k * 7 + 2, none⟩ = some (.string (S x.res)) := hcl 2 _ rfl
      have d3 : wr.cell? ⟨b, o + k * 7 + 3, none⟩ = some (.bool x.abs) := hcl 3 _ rfl
      have d4 : wr.cell? ⟨b, o + k * 7 + 4, none⟩ = some (.int .i64 x.loc) := hcl 4 _ rfl
      have d5 : wr.cell? ⟨b, o + k * 7 + 5, none⟩ = some (.slice co x.code.length cc) := hcl 5 _ rfl
      have d6 : wr.cell? ⟨b, o + k * 7 + 6, none⟩ = some (.slice ko x.cats.length kc) := hcl 6 _ rfl
      clear hcl hv
      have HX := Lib.hid hx
      clear hx hkl
      have hk0 : (0 : Int) ≤ k := by omega
      have hkn : (k : Int) < (n : Int) := by omega
      have he := HE.out
      go_wp2_with fail
      refine (HF.out k x _ wr HX.out HJ.out HV.out).mono ?_
      rintro e w1 ⟨b', rfl, hy, hno⟩
      have HY := Lib.hid hy
      have HNO := Lib.hid hno
      clear he d0 d1 d2 d3 d4 d5 d6 hy hno
      cases b' with
      | true =>
        have HK := Lib.hid (HY.out rfl)
        clear HY HNO
        go_wp2
        go_ret
        exact ⟨k, rfl, Or.inl ⟨by omega, k, hlt, rfl, HK.out⟩⟩
      | false =>
        have HK := Lib.hid (HNO.out rfl)
        clear HY HNO
        go_wp2
        go_roundw
        case rel => exact ⟨k + 1, by omega, by go_num, HK.out⟩
        case measure => simp [intOf]; omega
    · obtain rfl : n = k := by omega
      go_wp2
      go_ret
      exact ⟨-1, rfl, Or.inr ⟨by decide, HJ.out⟩⟩
theorem contj_mth {A : Nat → Prop} (F : Nat) (caps : Array Value) (l : List Mth) (sv : Value) (J K : Nat → World → Prop) (w : World) (he : ∀ args w, (callFunc F args).run Tryz.prog w = .ok (.enter F args) w)
    (hst : ∀ k w', J k w' → Src 7 MthR A w' sv l) (h0 : J 0 w) (hF : StepsMt A F caps l J K) (hlen : l.length ≤ 9223372036854775807) :
    Calls Tryz.prog 159 #[sv, .func (.func F) #[] caps] w (YesNo (fun w' => ∃ k, k < l.length ∧ K k w') (J l.length)) := by
  obtain ⟨so, cp, rfl⟩ := (hst 0 w h0).shape
  have HI := Lib.hid (indexj_mth F caps l so cp J K w he hst h0 hF hlen)
  generalize l.length = n at HI ⊢
  clear he hst h0 hF hlen
  go_enter Tryz.func159, Tryz.ntmps159
  go_wp2_with fail
  refine HI.out.mono ?_
  rintro e w1 ⟨z, rfl, hz⟩
  have HZ := Lib.hid hz
  rcases hz with ⟨h1, _⟩ | ⟨h1, _⟩
  · have HK : Hid (∃ k, k < n ∧ K k w1) := Lib.hid (by
      rcases HZ.out with ⟨_, k, hk, _, h⟩ | ⟨h2, _⟩
      · exact ⟨k, hk, h⟩
      · omega)
    clear HZ
    go_wp2
    go_ret
    exact ⟨true, rfl, fun _ => HK.out, (fun h => by cases h)⟩
  · have HK : Hid (J n w1) := Lib.hid (by
      rcases HZ.out with ⟨h2, _⟩ | ⟨_, h⟩
      · omega
      · exact h)
    have h0 : decide (0 ≤ z) = false := by rw [decide_eq_false_iff_not]; omega
    clear HZ
    go_wp2
    go_ret
    exact ⟨false, rfl, (fun h => by cases h), fun _ => HK.out⟩
def orM (r : Option (Nat × Mth)) (m : Mth) : Mth := match r with | some r => r.2 | none => m
def inhE (es : List Ent) (x : Nat) (m : Mth) : Mth := orM (findM es (upAt es x) m.name) m
theorem inh_any {A : Nat → Prop} {B : Nat → Nat} {T mb : Nat} {es : List Ent} {w0 : World} (hT : Tab A w0 T mb B es) (hS : Shape es) (hu : ParIn es) (hml : ∀ i, (mthsAt es i).length ≤ 9223372036854775807) (x : Nat) (hx : x < es.length) (m : Mth) (v : Value) (w : World) (hw : Below w0.heap.size w0 w)
    (hv : MthR (fun k => k < w0.heap.size) w m v) :
    Calls Tryz.prog 193 #[entV B x, v] w (fun e w' => ∃ v', e = .returned v' ∧ MthR (fun k => k < w0.heap.size) w' (inhE es x m) v' ∧ Below w.heap.size w w') := by
  obtain ⟨e, he⟩ : ∃ e, es[x]? = some e := ⟨_, List.getElem?_eq_getElem hx⟩
  have hua := upAt_eq he
  have HV := Lib.hid hv
  obtain ⟨_, _, _, rfl, ⟨po, pc, rfl⟩, ⟨co, cc, rfl⟩, ⟨ko, kc, rfl⟩⟩ := mth_shape hv
  have hb0 : Below w.heap.size w ((w.alloc (.cells #[.string (S m.name), .slice po m.params.length pc, .string (S m.res), .bool m.abs, .int .i64 m.loc, .slice co m.code.length cc, .slice ko m.cats.length kc] 33)).alloc (.cells #[.string ⟨#[]⟩, .slice none 0 0, .string ⟨#[]⟩, .bool false, .int .i64 0, .slice none 0 0, .slice none 0 0] 33)) := below_alloc (below_alloc (Below.refl _ _) _) _
  have hs1 : (w.alloc (.cells #[.string (S m.name), .slice po m.params.length pc, .string (S m.res), .bool m.abs, .int .i64 m.loc, .slice co m.code.length cc, .slice ko m.cats.length kc] 33)).heap.size = w.heap.size + 1 := by simp
  have HB0 := Lib.hid hb0
  have HX := Lib.hid ((Box.new w #[.string (S m.name), .slice po m.params.length pc, .string (S m.res), .bool m.abs, .int .i64 m.loc, .slice co m.code.length cc, .slice ko m.cats.length kc] 33).below (below_alloc (Below.refl _ _) (.cells #[.string ⟨#[]⟩, .slice none 0 0, .string ⟨#[]⟩, .bool false, .int .i64 0, .slice none 0 0, .slice none 0 0] 33)))
  have hz := Box.new (w.alloc (.cells #[.string (S m.name), .slice po m.params.length pc, .string (S m.res), .bool m.abs, .int .i64 m.loc, .slice co m.code.length cc, .slice ko m.cats.length kc] 33)) #[.string ⟨#[]⟩, .slice none 0 0, .string ⟨#[]⟩, .bool false, .int .i64 0, .slice none 0 0, .slice none 0 0] 33
  rw [hs1] at hz
  have HZ := Lib.hid hz
  have HW := Lib.hid hw
  obtain ⟨r, hr⟩ : ∃ r, r = findM es e.up m.name := ⟨_, rfl⟩
  have HM : Hid (∀ W, Below w.heap.size w W → Calls Tryz.prog 90 #[ptrV B e.up, .string (S m.name)] W (MethG A B w0 r W)) := Lib.hid (fun W hW => by
    rw [hr]
    exact meth_any hT hS hml e.up (fun j hj => hu x j (mem_par_up he hj)) m.name W (hw.trans (hW.mono hw.size)))
  have hin : inhE es x m = orM r m := by unfold inhE; rw [hua, hr]
  rw [hin]
  obtain ⟨q, hq⟩ := ptrV_is B e.up
  have HS : Hid (∀ W, Below ((w.alloc (.cells #[.string (S m.name), .slice po m.params.length pc, .string (S m.res), .bool m.abs, .int .i64 m.loc, .slice co m.code.length cc, .slice ko m.cats.length kc] 33)).alloc (.cells #[.string ⟨#[]⟩, .slice none 0 0, .string ⟨#[]⟩, .bool false, .int .i64 0, .slice none 0 0, .slice none 0 0] 33)).heap.size ((w.alloc (.cells #[.string (S m.name), .slice po m.params.length pc, .string (S m.res), .bool m.abs, .int .i64 m.loc, .slice co m.code.length cc, .slice ko m.cats.length kc] 33)).alloc (.cells #[.string ⟨#[]⟩, .slice none 0 0, .string ⟨#[]⟩, .bool false, .int .i64 0, .slice none 0 0, .slice none 0 0] 33)) W → W.cell? ⟨B x, 9, none⟩ = some (.pointer q) ∧ W.cell? ⟨w.heap.size, 0, none⟩ = some (.string (S m.name))) := Lib.hid (fun W hW => by
    obtain ⟨lv, fv, mv, sv, hbx, _⟩ := (hT.below (hw.trans ((hb0.trans (hW.mono hb0.size)).mono hw.size))).ent x e he
    have c9 := hbx.cell 9 rfl
    exact ⟨by rw [← hq]; exact c9, (HX.out.below hW).cell 0 rfl⟩)
  rw [hq] at HM
  clear hT hS hu hml hw hv hb0 hr hin hua he hx hs1 hz hq
  go_enter Tryz.func193, Tryz.ntmps193
  go_upto_region 1 with fail
  generalize (w.alloc (.cells #[.string (S m.name), .slice po m.params.length pc, .string (S m.res), .bool m.abs, .int .i64 m.loc, .slice co m.code.length cc, .slice ko m.cats.length kc] 33)).alloc (.cells #[.string ⟨#[]⟩, .slice none 0 0, .string ⟨#[]⟩, .bool false, .int .i64 0, .slice none 0 0, .slice none 0 0] 33) = W0 at HB0 HX HZ HS ⊢
  have h0 : Below W0.heap.size W0 W0 := Below.refl _ _
  obtain ⟨g1, g2⟩ := HS.out W0 h0
  first
  | (go_region_held (fun W => W.cell? ⟨B x, 9, none⟩ = some (.pointer q) ∧ W.cell? ⟨w.heap.size, 0, none⟩ = some (.string (S m.name))) ((refine HS.out _ ?_; (repeat (first | (with_reducible exact Below.refl _ _) | (with_reducible (apply below_step; rotate_left; assumption)) | (with_reducible refine below_drew ?_)))))
      (first | ((with_reducible refine (HM.out _ ?_).mono ?_); (focus (with_reducible refine below_step HB0.out ?_; (repeat (first | (with_reducible exact Below.refl _ _) | (with_reducible assumption) | (with_reducible refine below_drew ?_))); done)); rintro e1 w1 ⟨po1, pm1, rfl, hP, hb1⟩)))
  | fail
  have hb2 : Below W0.heap.size W0 w1 := (by first | exact below_step (below_drew h0) hb1 | exact below_step (below_drew (below_drew h0)) hb1 | exact below_step (below_drew (below_drew (below_drew h0))) hb1)
  have HB1 := Lib.hid (HB0.out.trans (hb2.mono HB0.out.size))
  have x1 := HX.out.below hb2
  have z1 := HZ.out.below hb2
  have HV1 := Lib.hid (MthR.st.keep HV.out (Only.ofBelow (S := fun _ => False) HB1.out) (fun _ _ => id))
  clear hb1 hb2 g1 g2 HM HS h0
  have HGE : Hid (w.heap.size ≤ w.heap.size + 1) := Lib.hid (Nat.le_succ _)
  cases r with
  | none =>
    obtain rfl : pm1 = none := hP
    have c0 := x1.cell 0 rfl
    have c1 := x1.cell 1 rfl
    have c2 := x1.cell 2 rfl
    have c3 := x1.cell 3 rfl
    have c4 := x1.cell 4 rfl
    have c5 := x1.cell 5 rfl
    have c6 := x1.cell 6 rfl
    clear x1
    have p0 := z1.cell 0 rfl
    have r0 := z1.free 0
    have p1 := z1.cell 1 rfl
    have r1 := z1.free 1
    have p2 := z1.cell 2 rfl
    have r2 := z1.free 2
    have p3 := z1.cell 3 rfl
    have r3 := z1.free 3
    have p4 := z1.cell 4 rfl
    have r4 := z1.free 4
    have p5 := z1.cell 5 rfl
    have r5 := z1.free 5
    have p6 := z1.cell 6 rfl
    have r6 := z1.free 6
    have Z1 := Lib.hid z1
    clear z1
    go_wp2
    have z1 := Z1.out
    have l := load_box (P := Tryz.prog) (w := (((((((w1.setCell ⟨w.heap.size + 1, 0, none⟩ (.string (S m.name))).setCell ⟨w.heap.size + 1, 1, none⟩ (.slice po m.params.length pc)).setCell ⟨w.heap.size + 1, 2, none⟩ (.string (S m.res))).setCell ⟨w.heap.size + 1, 3, none⟩ (.bool m.abs)).setCell ⟨w.heap.size + 1, 4, none⟩ (.int .i64 m.loc)).setCell ⟨w.heap.size + 1, 5, none⟩ (.slice co m.code.length cc)).setCell ⟨w.heap.size + 1, 6, none⟩ (.slice ko m.cats.length kc))) (cs := #[.string (S m.name), .slice po m.params.length pc, .string (S m.res), .bool m.abs, .int .i64 m.loc, .slice co m.code.length cc, .slice ko m.cats.length kc]) (((((((z1.set 0 (.string (S m.name))).set 1 (.slice po m.params.length pc)).set 2 (.string (S m.res))).set 3 (.bool m.abs)).set 4 (.int .i64 m.loc)).set 5 (.slice co m.code.length cc)).set 6 (.slice ko m.cats.length kc)) Tryz.underlying33 rfl sizec_mth
    have hb : Below w.heap.size w (((((((w1.setCell ⟨w.heap.size + 1, 0, none⟩ (.string (S m.name))).setCell ⟨w.heap.size + 1, 1, none⟩ (.slice po m.params.length pc)).setCell ⟨w.heap.size + 1, 2, none⟩ (.string (S m.res))).setCell ⟨w.heap.size + 1, 3, none⟩ (.bool m.abs)).setCell ⟨w.heap.size + 1, 4, none⟩ (.int .i64 m.loc)).setCell ⟨w.heap.size + 1, 5, none⟩ (.slice co m.code.length cc)).setCell ⟨w.heap.size + 1, 6, none⟩ (.slice ko m.cats.length kc)) := (((((((HB1.out.setCell HGE.out (.string (S m.name))).setCell HGE.out (.slice po m.params.length pc)).setCell HGE.out (.string (S m.res))).setCell HGE.out (.bool m.abs)).setCell HGE.out (.int .i64 m.loc)).setCell HGE.out (.slice co m.code.length cc)).setCell HGE.out (.slice ko m.cats.length kc))
    have ho : Only (fun i => i = w.heap.size + 1) w1 (((((((w1.setCell ⟨w.heap.size + 1, 0, none⟩ (.string (S m.name))).setCell ⟨w.heap.size + 1, 1, none⟩ (.slice po m.params.length pc)).setCell ⟨w.heap.size + 1, 2, none⟩ (.string (S m.res))).setCell ⟨w.heap.size + 1, 3, none⟩ (.bool m.abs)).setCell ⟨w.heap.size + 1, 4, none⟩ (.int .i64 m.loc)).setCell ⟨w.heap.size + 1, 5, none⟩ (.slice co m.code.length cc)).setCell ⟨w.heap.size + 1, 6, none⟩ (.slice ko m.cats.length kc)) := ((((((((Only.refl (fun i => i = w.heap.size + 1) w1).setCell rfl (.string (S m.name))).setCell rfl (.slice po m.params.length pc)).setCell rfl (.string (S m.res))).setCell rfl (.bool m.abs)).setCell rfl (.int .i64 m.loc)).setCell rfl (.slice co m.code.length cc)).setCell rfl (.slice ko m.cats.length kc))
    refine bodyPost_ret (v := .agg #[.string (S m.name), .slice po m.params.length pc, .string (S m.res), .bool m.abs, .int .i64 m.loc, .slice co m.code.length cc, .slice ko m.cats.length kc]) ?_ rfl ⟨_, rfl, MthR.st.keep HV1.out ho (fun i (hi : i < w0.heap.size) (h : i = w.heap.size + 1) => by have := HW.out.size; omega), hb⟩
    simp only [results, Tryz.results193]
    simp [asAddr, l]
  | some r =>
    obtain ⟨i, r⟩ := r
    obtain ⟨_, b, o, v, hpm, hmv, _, hbl, hcl⟩ := hP
    obtain rfl := Value.pointer.inj hpm
    have hmv2 := MthR.st.mono (A' := fun k => k < w0.heap.size) hmv (fun k hk _ => hk)
    have HR1 := Lib.hid (MthR.st.keep hmv2 (Only.ofBelow (S := fun _ => False) (HW.out.trans (HB1.out.mono HW.out.size))) (fun _ _ => id))
    obtain ⟨_, _, _, rfl, ⟨qo, qc, rfl⟩, ⟨dd, dc, rfl⟩, ⟨lo, lc, rfl⟩⟩ := mth_shape hmv
    have ho := Only.ofBelow (S := fun _ => False) (HW.out.trans (HB1.out.mono HW.out.size))
    have c0 : w1.cell? ⟨b, o, none⟩ = some (.string (S r.name)) := ho.cell (a := ⟨b, o, none⟩) (hcl 0 _ rfl) id
    have c1 : w1.cell? ⟨b, o + 1, none⟩ = some (.slice qo r.params.length qc) := ho.cell (hcl 1 _ rfl) id
    have c2 : w1.cell? ⟨b, o + 2, none⟩ = some (.string (S r.res)) := ho.cell (hcl 2 _ rfl) id
    have c3 : w1.cell? ⟨b, o + 3, none⟩ = some (.bool r.abs) := ho.cell (hcl 3 _ rfl) id
    have c4 : w1.cell? ⟨b, o + 4, none⟩ = some (.int .i64 r.loc) := ho.cell (hcl 4 _ rfl) id
    have c5 : w1.cell? ⟨b, o + 5, none⟩ = some (.slice dd r.code.length dc) := ho.cell (hcl 5 _ rfl) id
    have c6 : w1.cell? ⟨b, o + 6, none⟩ = some (.slice lo r.cats.length lc) := ho.cell (hcl 6 _ rfl) id
    clear x1 ho hcl hmv hmv2
    have p0 := z1.cell 0 rfl
    have r0 := z1.free 0
    have p1 := z1.cell 1 rfl
    have r1 := z1.free 1
    have p2 := z1.cell 2 rfl
    have r2 := z1.free 2
    have p3 := z1.cell 3 rfl
    have r3 := z1.free 3
    have p4 := z1.cell 4 rfl
    have r4 := z1.free 4
    have p5 := z1.cell 5 rfl
    have r5 := z1.free 5
    have p6 := z1.cell 6 rfl
    have r6 := z1.free 6
    have Z1 := Lib.hid z1
    clear z1
    go_wp2
    have z1 := Z1.out
    have l := load_box (P := Tryz.prog) (w := (((((((w1.setCell ⟨w.heap.size + 1, 0, none⟩ (.string (S r.name))).setCell ⟨w.heap.size + 1, 1, none⟩ (.slice qo r.params.length qc)).setCell ⟨w.heap.size + 1, 2, none⟩ (.string (S r.res))).setCell ⟨w.heap.size + 1, 3, none⟩ (.bool r.abs)).setCell ⟨w.heap.size + 1, 4, none⟩ (.int .i64 r.loc)).setCell ⟨w.heap.size + 1, 5, none⟩ (.slice dd r.code.length dc)).setCell ⟨w.heap.size + 1, 6, none⟩ (.slice lo r.cats.length lc))) (cs := #[.string (S r.name), .slice qo r.params.length qc, .string (S r.res), .bool r.abs, .int .i64 r.loc, .slice dd r.code.length dc, .slice lo r.cats.length lc]) (((((((z1.set 0 (.string (S r.name))).set 1 (.slice qo r.params.length qc)).set 2 (.string (S r.res))).set 3 (.bool r.abs)).set 4 (.int .i64 r.loc)).set 5 (.slice dd r.code.length dc)).set 6 (.slice lo r.cats.length lc)) Tryz.underlying33 rfl sizec_mth
    have hb : Below w.heap.size w (((((((w1.setCell ⟨w.heap.size + 1, 0, none⟩ (.string (S r.name))).setCell ⟨w.heap.size + 1, 1, none⟩ (.slice qo r.params.length qc)).setCell ⟨w.heap.size + 1, 2, none⟩ (.string (S r.res))).setCell ⟨w.heap.size + 1, 3, none⟩ (.bool r.abs)).setCell ⟨w.heap.size + 1, 4, none⟩ (.int .i64 r.loc)).setCell ⟨w.heap.size + 1, 5, none⟩ (.slice dd r.code.length dc)).setCell ⟨w.heap.size + 1, 6, none⟩ (.slice lo r.cats.length lc)) := (((((((HB1.out.setCell HGE.out (.string (S r.name))).setCell HGE.out (.slice qo r.params.length qc)).setCell HGE.out (.string (S r.res))).setCell HGE.out (.bool r.abs)).setCell HGE.out (.int .i64 r.loc)).setCell HGE.out (.slice dd r.code.length dc)).setCell HGE.out (.slice lo r.cats.length lc))
    have ho : Only (fun i => i = w.heap.size + 1) w1 (((((((w1.setCell ⟨w.heap.size + 1, 0, none⟩ (.string (S r.name))).setCell ⟨w.heap.size + 1, 1, none⟩ (.slice qo r.params.length qc)).setCell ⟨w.heap.size + 1, 2, none⟩ (.string (S r.res))).setCell ⟨w.heap.size + 1, 3, none⟩ (.bool r.abs)).setCell ⟨w.heap.size + 1, 4, none⟩ (.int .i64 r.loc)).setCell ⟨w.heap.size + 1, 5, none⟩ (.slice dd r.code.length dc)).setCell ⟨w.heap.size + 1, 6, none⟩ (.slice lo r.cats.length lc)) := ((((((((Only.refl (fun i => i = w.heap.size + 1) w1).setCell rfl (.string (S r.name))).setCell rfl (.slice qo r.params.length qc)).setCell rfl (.string (S r.res))).setCell rfl (.bool r.abs)).setCell rfl (.int .i64 r.loc)).setCell rfl (.slice dd r.code.length dc)).setCell rfl (.slice lo r.cats.length lc))
    refine bodyPost_ret (v := .agg #[.string (S r.name), .slice qo r.params.length qc, .string (S r.res), .bool r.abs, .int .i64 r.loc, .slice dd r.code.length dc, .slice lo r.cats.length lc]) ?_ rfl ⟨_, rfl, MthR.st.keep HR1.out ho (fun i (hi : i < w0.heap.size) (h : i = w.heap.size + 1) => by have := HW.out.size; omega), hb⟩
    simp only [results, Tryz.results193]
    simp [asAddr, l]
def msE (es : List Ent) (L : List Nat) : List Mth := L.flatMap (mthsAt es)
def knOf (es : List Ent) (x : Nat) (ms : List Mth) (n : List UInt8) : Option Mth := (ms.find? fun m => m.name == n).map (inhE es x)
def clash (es : List Ent) (x : Nat) (ms : List Mth) (m : Mth) : Bool := match knOf es x ms m.name with | some k => signB m != signB k | none => false
def differsE (es : List Ent) (x : Nat) : Bool := (msE es (addedE es x)).any (clash es x (msE es (addedE es x)))
theorem knOf_app {es : List Ent} {x : Nat} {a b : List Mth} {n : List UInt8} (h : ∃ m ∈ a, m.name = n) : knOf es x (a ++ b) n = knOf es x a n := by
  unfold knOf
  rw [List.find?_append]
  obtain ⟨m, hm, hn⟩ := h
  have h1 : (a.find? fun m => m.name == n).isSome = true := List.find?_isSome.2 ⟨m, hm, by simp [hn]⟩
  obtain ⟨k, hk⟩ := Option.isSome_iff_exists.1 h1
  rw [hk]
  rfl
def Kn (w0 : World) (es : List Ent) (x : Nat) (km : Nat) (ms : List Mth) (w : World) : Prop :=
  ∃ n f h, MapF Tryz.prog 9 (.agg #[.string ⟨#[]⟩, .slice none 0 0, .string ⟨#[]⟩, .bool false, .int .i64 0, .slice none 0 0, .slice none 0 0]) w km n f h ∧ n ≤ ms.length ∧ (∀ nm, h (.string nm) = true ↔ ∃ m ∈ ms, m.name = nm) ∧
    ∀ nm, h (.string nm) = true → ∃ k, knOf es x ms nm = some k ∧ MthR (fun b => b < w0.heap.size) w k (f (.string nm))
theorem Kn.keep {w0 : World} {es : List Ent} {x km : Nat} {ms : List Mth} {w w' : World} {S : Nat → Prop} (q : Kn w0 es x km ms w) (ho : Only S w w') (hk : ¬ S km) (hA : ∀ b, b < w0.heap.size → ¬ S b) : Kn w0 es x km ms w' := by
  obtain ⟨n, f, h, h1, h2, h3, h4⟩ := q
  exact ⟨n, f, h, h1.keep ho hk, h2, h3, fun nm hn => let ⟨k, a, b⟩ := h4 nm hn; ⟨k, a, MthR.st.keep b ho hA⟩⟩
theorem zero_mth (w : World) : (zeroValue 33).run Tryz.prog w = .ok (.agg #[.string ⟨#[]⟩, .slice none 0 0, .string ⟨#[]⟩, .bool false, .int .i64 0, .slice none 0 0, .slice none 0 0]) w := by kernel_rfl
theorem Kn.look {w0 : World} {es : List Ent} {x km : Nat} {ms : List Mth} {w : World} (q : Kn w0 es x km ms w) (nm : List UInt8) (hn : nm.length ≤ 9223372036854775807) (hm : ∃ m ∈ ms, m.name = nm) :
    ∃ k v, knOf es x ms nm = some k ∧ MthR (fun b => b < w0.heap.size) w k v ∧ (Instr.lookup 190 (.map (some km)) (.string (S nm)) false).run Tryz.prog w = .ok v w ∧ (Instr.lookup 190 (.map (some km)) (.string (S nm)) true).run Tryz.prog w = .ok (.tuple #[v, .bool true]) w := by
  obtain ⟨n, f, h, h1, h2, h3, h4⟩ := q
  have ht := (h3 nm).2 hm
  obtain ⟨k, hk, hv⟩ := h4 nm ht
  have l1 := h1.look keyed_str Tryz.underlying190 (zero_mth w) (key_str nm hn)
  have l2 := h1.look_ok keyed_str Tryz.underlying190 (zero_mth w) (key_str nm hn)
  rw [ht] at l2
  exact ⟨k, _, hk, hv, l1, l2⟩
theorem Kn.look_no {w0 : World} {es : List Ent} {x km : Nat} {ms : List Mth} {w : World} (q : Kn w0 es x km ms w) (nm : List UInt8) (hn : nm.length ≤ 9223372036854775807) (hm : ¬ ∃ m ∈ ms, m.name = nm) :
    (Instr.lookup 190 (.map (some km)) (.string (S nm)) true).run Tryz.prog w = .ok (.tuple #[.agg #[.string ⟨#[]⟩, .slice none 0 0, .string ⟨#[]⟩, .bool false, .int .i64 0, .slice none 0 0, .slice none 0 0], .bool false]) w := by
  obtain ⟨n, f, h, h1, h2, h3, h4⟩ := q
  have ht : h (.string nm) = false := by
    cases hh : h (.string nm) with
    | false => rfl
    | true => exact absurd ((h3 nm).1 hh) hm
  have l2 := h1.look_ok keyed_str Tryz.underlying190 (zero_mth w) (key_str nm hn)
  have hf : f (.string nm) = .agg #[.string ⟨#[]⟩, .slice none 0 0, .string ⟨#[]⟩, .bool false, .int .i64 0, .slice none 0 0, .slice none 0 0] := by
    obtain ⟨D, _, _, h5, h6⟩ := h1
    have h7 := h5 (.string nm)
    rw [Maps.atKey_of_not_has (by rw [h6, ht])] at h7
    exact (DataW.held.inj h7).symm
  rw [ht, hf] at l2
  exact l2
theorem Kn.more {w0 : World} {es : List Ent} {x km : Nat} {ms : List Mth} {w : World} (q : Kn w0 es x km ms w) {m : Mth} (hm : ∃ k ∈ ms, k.name = m.name) : Kn w0 es x km (ms ++ [m]) w := by
  obtain ⟨n, f, h, h1, h2, h3, h4⟩ := q
  refine ⟨n, f, h, h1, by rw [List.length_append]; omega, fun nm => ?_, fun nm hn => ?_⟩
  · rw [h3]
    constructor
    · rintro ⟨k, hk, e⟩; exact ⟨k, List.mem_append_left _ hk, e⟩
    · rintro ⟨k, hk, e⟩
      rcases List.mem_append.1 hk with hk | hk
      · exact ⟨k, hk, e⟩
      · obtain rfl := List.mem_singleton.1 hk
        obtain ⟨k2, h5, h6⟩ := hm
        exact ⟨k2, h5, h6.trans e⟩
  · obtain ⟨k, hk, hv⟩ := h4 nm hn
    exact ⟨k, by rw [knOf_app ((h3 nm).1 hn)]; exact hk, hv⟩
theorem Kn.put {w0 : World} {es : List Ent} {x km : Nat} {ms : List Mth} {w : World} (q : Kn w0 es x km ms w) {m : Mth} {v : Value} (hm : ¬ ∃ k ∈ ms, k.name = m.name) (hn : m.name.length ≤ 9223372036854775807) (hl : ms.length < 9223372036854775807) (hkm : w0.heap.size ≤ km) (hv : MthR (fun b => b < w0.heap.size) w (inhE es x m) v) :
    (Instr.mapUpdate 190 (.map (some km)) (.string (S m.name)) v).run Tryz.prog w = .ok () (putW Tryz.prog 190 (.map (some km)) (.string (S m.name)) v w) ∧ Kn w0 es x km (ms ++ [m]) (putW Tryz.prog 190 (.map (some km)) (.string (S m.name)) v w) ∧
      Only (fun b => b = km) w (putW Tryz.prog 190 (.map (some km)) (.string (S m.name)) v w) := by
  obtain ⟨n, f, h, h1, h2, h3, h4⟩ := q
  obtain ⟨p1, p2, p3, _⟩ := h1.put keyed_str Tryz.underlying190 (by unfold maxLen; omega) (val := v) (key_str m.name hn)
  have ht : h (.string m.name) = false := by
    cases hh : h (.string m.name) with
    | false => rfl
    | true => exact absurd ((h3 m.name).1 hh) hm
  rw [ht] at p2
  refine ⟨p1, ⟨_, _, _, p2, by rw [List.length_append]; simp; omega, fun nm => ?_, fun nm hh => ?_⟩, p3⟩
  · by_cases e : nm = m.name
    · subst e
      rw [updF_same]
      exact ⟨fun _ => ⟨m, by simp, rfl⟩, fun _ => rfl⟩
    · rw [updF_other h true (show Lit.string nm ≠ Lit.string m.name from fun q => e (Lit.string.inj q)), h3]
      constructor
      · rintro ⟨k, hk, e2⟩; exact ⟨k, List.mem_append_left _ hk, e2⟩
      · rintro ⟨k, hk, e2⟩
        rcases List.mem_append.1 hk with hk | hk
        · exact ⟨k, hk, e2⟩
        · obtain rfl := List.mem_singleton.1 hk
          exact absurd e2.symm e
  · by_cases e : nm = m.name
    · subst e
      refine ⟨inhE es x m, ?_, ?_⟩
      · unfold knOf
        rw [List.find?_append, List.find?_eq_none.2 (fun k hk => by simp only [beq_iff_eq]; exact fun e2 => hm ⟨k, hk, e2⟩)]
        simp
      · rw [updF_same]
        exact MthR.st.keep hv p3 (fun b hb (e2 : b = km) => by omega)
    · have hne : Lit.string nm ≠ Lit.string m.name := fun q => e (Lit.string.inj q)
      rw [updF_other h true hne] at hh
      obtain ⟨k, hk, hvk⟩ := h4 nm hh
      refine ⟨k, by rw [knOf_app ((h3 nm).1 hh)]; exact hk, ?_⟩
      rw [updF_other f v hne]
      exact MthR.st.keep hvk p3 (fun b hb (e2 : b = km) => by omega)
theorem look_keep {w X : World} {b n : Nat} {f : Lit → Value} {h : Lit → Bool} {key v : Value} {kl : Lit} (q : MapF Tryz.prog 9 (.agg #[.string ⟨#[]⟩, .slice none 0 0, .string ⟨#[]⟩, .bool false, .int .i64 0, .slice none 0 0, .slice none 0 0]) w b n f h) (hkey : keyOf Tryz.prog 9 key = some kl) (hX : Below w.heap.size w X)
    (hl : (Instr.lookup 190 (.map (some b)) key false).run Tryz.prog w = .ok v w) : (Instr.lookup 190 (.map (some b)) key false).run Tryz.prog X = .ok v X := by
  have h1 := q.look keyed_str Tryz.underlying190 (zero_mth w) hkey
  have h2 := (q.keep (Only.ofBelow (S := fun _ => False) hX) id).look keyed_str Tryz.underlying190 (zero_mth X) hkey
  obtain ⟨e, _⟩ := Result.ok.inj (hl.symm.trans h1)
  rw [e]
  exact h2
theorem diff2_any {A : Nat → Prop} {B : Nat → Nat} {T mb : Nat} {es : List Ent} {w0 : World} (hT : Tab A w0 T mb B es) (hS : Shape es) (hu : ParIn es) (hml : ∀ i, (mthsAt es i).length ≤ 9223372036854775807) (x : Nat) (hx : x < es.length) (m : Mth) (v : Value) (ms : List Mth) (kb cb km : Nat) (w : World) (hw : Below w0.heap.size w0 w)
    (hv : MthR (fun k => k < w0.heap.size) w m v) (hk : w.cell? ⟨kb, 0, none⟩ = some (.map (some km))) (hc : w.cell? ⟨cb, 0, none⟩ = some (entV B x)) (hK : Kn w0 es x km ms w) (hkm : w0.heap.size ≤ km) (hkb : kb ≠ km) (hcb : cb ≠ km) (hn : m.name.length ≤ 9223372036854775807) (hl : ms.length < 9223372036854775807)
    (hbr : m.brief) (hbk : ∀ k, knOf es x (ms ++ [m]) m.name = some k → k.brief) :
    Calls Tryz.prog 192 #[v, .pointer (some ⟨kb, 0, none⟩), .pointer (some ⟨cb, 0, none⟩)] w
      (fun e w' => YesNo (fun _ => clash es x (ms ++ [m]) m = true) (fun w' => Kn w0 es x km (ms ++ [m]) w' ∧ clash es x (ms ++ [m]) m = false) e w' ∧ Only (fun b => b = km) w w') := by
  have HV := Lib.hid hv
  obtain ⟨_, _, _, rfl, ⟨po, pc, rfl⟩, ⟨co, cc, rfl⟩, ⟨ko, kc, rfl⟩⟩ := mth_shape hv
  have hb0 : Below w.heap.size w (w.alloc (.cells #[.string (S m.name), .slice po m.params.length pc, .string (S m.res), .bool m.abs, .int .i64 m.loc, .slice co m.code.length cc, .slice ko m.cats.length kc] 33)) := below_alloc (Below.refl _ _) _
  have ho0 : Only (fun _ => False) w (w.alloc (.cells #[.string (S m.name), .slice po m.params.length pc, .string (S m.res), .bool m.abs, .int .i64 m.loc, .slice co m.code.length cc, .slice ko m.cats.length kc] 33)) := Only.ofBelow hb0
  have HX := Lib.hid (Box.new w #[.string (S m.name), .slice po m.params.length pc, .string (S m.res), .bool m.abs, .int .i64 m.loc, .slice co m.code.length cc, .slice ko m.cats.length kc] 33)
  have HB0 := Lib.hid hb0
  have HK0 := Lib.hid (hK.keep ho0 id (fun _ _ => id))
  have hkA := ho0.cell hk id
  have hcA := ho0.cell hc id
  have HLT : Hid (km < w.heap.size ∧ kb < w.heap.size ∧ cb < w.heap.size) := Lib.hid (by
    obtain ⟨_, _, _, h1, _⟩ := hK
    exact ⟨h1.lt, World.block_lt_of_cell? w _ hk, World.block_lt_of_cell? w _ hc⟩)
  have HINH : Hid (∀ X, Below w0.heap.size w0 X → MthR (fun k => k < w0.heap.size) X m (.agg #[.string (S m.name), .slice po m.params.length pc, .string (S m.res), .bool m.abs, .int .i64 m.loc, .slice co m.code.length cc, .slice ko m.cats.length kc]) → Calls Tryz.prog 193 #[entV B x, .agg #[.string (S m.name), .slice po m.params.length pc, .string (S m.res), .bool m.abs, .int .i64 m.loc, .slice co m.code.length cc, .slice ko m.cats.length kc]] X (fun e w' => ∃ v', e = .returned v' ∧ MthR (fun k => k < w0.heap.size) w' (inhE es x m) v' ∧ Below X.heap.size X w')) := Lib.hid (fun X hX hvX => inh_any hT hS hu hml x hx m _ X hX hvX)
  have HW := Lib.hid hw
  have HN := Lib.hid hn
  have HL := Lib.hid hl
  have HKM := Lib.hid hkm
  have HKB := Lib.hid hkb
  have HCB := Lib.hid hcb
  have HBR := Lib.hid hbr
  have HBK := Lib.hid hbk
  clear hT hS hu hml hx hw hv hk hc hK hkm hkb hcb hn hl hbr hbk hb0 ho0
  go_enter Tryz.func192, Tryz.ntmps192
  go_upto_region 1 with fail
  generalize w.alloc (.cells #[.string (S m.name), .slice po m.params.length pc, .string (S m.res), .bool m.abs, .int .i64 m.loc, .slice co m.code.length cc, .slice ko m.cats.length kc] 33) = W0 at HX HB0 HK0 hkA hcA ⊢
  obtain ⟨bm, hbm⟩ : ∃ bm, bm = w.heap.size := ⟨_, rfl⟩
  rw [← hbm] at HX ⊢
  have HBM := Lib.hid hbm
  clear hbm
  have x0 : W0.cell? ⟨bm, 0, none⟩ = some (.string (S m.name)) := HX.out.cell 0 rfl
  by_cases hm : ∃ k ∈ ms, k.name = m.name
  · obtain ⟨k0, vk0, _, hvk0, _, hlk0⟩ := HK0.out.look m.name HN.out hm
    obtain ⟨_, _, _, rfl, ⟨qo0, qc0, rfl⟩, ⟨dd0, dc0, rfl⟩, ⟨lo0, lc0, rfl⟩⟩ := mth_shape hvk0
    have HMM := Lib.hid hm
    clear hm hvk0
    go_upto_region 4 with fail
    refine wp_forget (fun wx => Kn w0 es x km (ms ++ [m]) wx ∧ Only (fun b => b = km) w wx ∧ Box wx bm #[.string (S m.name), .slice po m.params.length pc, .string (S m.res), .bool m.abs, .int .i64 m.loc, .slice co m.code.length cc, .slice ko m.cats.length kc] 33 ∧ wx.cell? ⟨kb, 0, none⟩ = some (.map (some km))) ⟨(HK0.out.more HMM.out).keep ((Only.refl (fun _ => False) W0).alloc _) id (fun _ _ => id), (Only.ofBelow HB0.out).alloc _, HX.out.below (below_alloc (Below.refl _ _) _), ((Only.refl (fun _ => False) W0).alloc _).cell hkA id⟩ ?_
    rintro wx ⟨hkn, hxo, hxm, hkb⟩
    clear x0 hlk0 hkA hcA HINH HX HB0 HK0
    have HKN := Lib.hid hkn
    have HXO := Lib.hid hxo
    have HXM := Lib.hid hxm
    have hkbx := hkb
    obtain ⟨k, vk, hkk, hvk, hlk, _⟩ := hkn.look m.name HN.out ⟨m, by simp, rfl⟩
    have HVK := Lib.hid hvk
    have HKK := Lib.hid hkk
    obtain ⟨_, _, _, rfl, ⟨qo, qc, rfl⟩, ⟨dd, dc, rfl⟩, ⟨lo, lc, rfl⟩⟩ := mth_shape hvk
    have HS4 : Hid (∀ X, Below wx.heap.size wx X → X.cell? ⟨kb, 0, none⟩ = some (.map (some km)) ∧ X.cell? ⟨bm, 0, none⟩ = some (.string (S m.name)) ∧ X.cell? ⟨bm, 1, none⟩ = some (.slice po m.params.length pc) ∧ X.cell? ⟨bm, 2, none⟩ = some (.string (S m.res)) ∧ X.cell? ⟨bm, 3, none⟩ = some (.bool m.abs) ∧ X.cell? ⟨bm, 4, none⟩ = some (.int .i64 m.loc) ∧ X.cell? ⟨bm, 5, none⟩ = some (.slice co m.code.length cc) ∧ X.cell? ⟨bm, 6, none⟩ = some (.slice ko m.cats.length kc) ∧ (Instr.lookup 190 (.map (some km)) (.string (S m.name)) false).run Tryz.prog X = .ok (.agg #[.string (S k.name), .slice qo k.params.length qc, .string (S k.res), .bool k.abs, .int .i64 k.loc, .slice dd k.code.length dc, .slice lo k.cats.length lc]) X) := Lib.hid (fun X hX => by
      have ho := Only.ofBelow (S := fun _ => False) hX
      have hxb := HXM.out.below hX
      refine ⟨ho.cell hkbx id, hxb.cell 0 rfl, hxb.cell 1 rfl, hxb.cell 2 rfl, hxb.cell 3 rfl, hxb.cell 4 rfl, hxb.cell 5 rfl, hxb.cell 6 rfl, ?_⟩
      obtain ⟨_, _, _, h1, _⟩ := HKN.out
      exact look_keep h1 (key_str m.name HN.out) hX hlk)
    have HSM : Hid (∀ X, Below wx.heap.size wx X → Calls Tryz.prog 16 #[.agg #[.string (S m.name), .slice po m.params.length pc, .string (S m.res), .bool m.abs, .int .i64 m.loc, .slice co m.code.length cc, .slice ko m.cats.length kc]] X (SaidS (signB m) X)) := Lib.hid (fun X hX => csign_any m _ X (MthR.st.keep HV.out (HXO.out.then (Only.ofBelow (S := fun _ => False) hX) (fun _ _ q => q.elim)) (fun b hb (e : b = km) => by have h1 := HKM.out; have h2 : b < w0.heap.size := hb; omega)) HBR.out)
    have HSK : Hid (∀ X, Below wx.heap.size wx X → Calls Tryz.prog 16 #[.agg #[.string (S k.name), .slice qo k.params.length qc, .string (S k.res), .bool k.abs, .int .i64 k.loc, .slice dd k.code.length dc, .slice lo k.cats.length lc]] X (SaidS (signB k) X)) := Lib.hid (fun X hX => csign_any k _ X (MthR.st.keep HVK.out (Only.ofBelow (S := fun _ => False) hX) (fun _ _ => id)) (HBK.out k HKK.out))
    have HCL : Hid (clash es x (ms ++ [m]) m = (signB m != signB k)) := Lib.hid (by unfold clash; rw [HKK.out])
    unfold SaidS at HSM HSK
    clear hkn hxo hxm hkk hvk hkbx hkb hlk
    have h0 : Below wx.heap.size wx wx := Below.refl _ _
    obtain ⟨g0, g1, g2, g3, g4, g5, g6, g7, g8⟩ := HS4.out wx h0
    have e0 := S_toList (signB m)
    have e1 := S_toList (signB k)
    generalize signB m = sm at HSM HCL e0
    generalize signB k = sk at HSK HCL e1
    go_upto_region 4 with fail
    first
    | (go_region_held3 (fun X => X.cell? ⟨kb, 0, none⟩ = some (.map (some km)) ∧ X.cell? ⟨bm, 0, none⟩ = some (.string (S m.name)) ∧ X.cell? ⟨bm, 1, none⟩ = some (.slice po m.params.length pc) ∧ X.cell? ⟨bm, 2, none⟩ = some (.string (S m.res)) ∧ X.cell? ⟨bm, 3, none⟩ = some (.bool m.abs) ∧ X.cell? ⟨bm, 4, none⟩ = some (.int .i64 m.loc) ∧ X.cell? ⟨bm, 5, none⟩ = some (.slice co m.code.length cc) ∧ X.cell? ⟨bm, 6, none⟩ = some (.slice ko m.cats.length kc) ∧ (Instr.lookup 190 (.map (some km)) (.string (S m.name)) false).run Tryz.prog X = .ok (.agg #[.string (S k.name), .slice qo k.params.length qc, .string (S k.res), .bool k.abs, .int .i64 k.loc, .slice dd k.code.length dc, .slice lo k.cats.length lc]) X) ((refine HS4.out _ ?_; (repeat (first | (with_reducible exact Below.refl _ _) | (with_reducible (apply below_step; rotate_left; assumption)) | (with_reducible refine below_drew ?_)))))
        (first
         | ((with_reducible refine (HSM.out _ ?_).mono ?_); (focus ((repeat (first | (with_reducible exact Below.refl _ _) | (with_reducible (apply below_step; rotate_left; assumption)) | (with_reducible refine below_drew ?_))); done)); rintro e1 w1 ⟨rfl, b1⟩)
         | ((with_reducible refine (HSK.out _ ?_).mono ?_); (focus ((repeat (first | (with_reducible exact Below.refl _ _) | (with_reducible (apply below_step; rotate_left; assumption)) | (with_reducible refine below_drew ?_))); done)); rintro e2 w2 ⟨rfl, b2⟩)))
    | fail
    all_goals
      have hb9 : Below wx.heap.size wx w2 := by
        have c1 : Below wx.heap.size wx w1 := (by first | exact below_step h0 b1 | exact below_step (below_drew h0) b1 | exact below_step (below_drew (below_drew h0)) b1)
        first | exact below_step c1 b2 | exact below_step (below_drew c1) b2 | exact below_step (below_drew (below_drew c1)) b2
      have HB9 := Lib.hid hb9
      clear hb9 b1 b2 g0 g1 g2 g3 g4 g5 g6 g7 g8 h0 HS4 HSM HSK
      go_wp2
      go_ret
      refine ⟨⟨sm != sk, by (cases hq : (sm == sk) <;> simp [bne, hq]), fun h => by (rw [HCL.out]; exact h), fun h => ⟨HKN.out.keep (Only.ofBelow (S := fun _ => False) HB9.out) id (fun _ _ => id), by (rw [HCL.out]; exact h)⟩⟩, HXO.out.then (Only.ofBelow (S := fun _ => False) HB9.out) (fun _ _ q => q.elim)⟩
  · have hlk0 := HK0.out.look_no m.name HN.out hm
    have HMM := Lib.hid hm
    clear hm
    go_upto_region 3 with fail
    refine wp_forget (fun wx => Kn w0 es x km ms wx ∧ Below W0.heap.size W0 wx) ⟨HK0.out.keep ((Only.refl (fun _ => False) W0).alloc _) id (fun _ _ => id), below_alloc (Below.refl _ _) _⟩ ?_
    rintro wr ⟨hknr, hbr⟩
    have HKR := Lib.hid hknr
    have HBWR := Lib.hid hbr
    have HS3 : Hid (∀ X, Only (fun b => b = km) wr X → X.cell? ⟨kb, 0, none⟩ = some (.map (some km)) ∧ X.cell? ⟨cb, 0, none⟩ = some (entV B x) ∧ X.cell? ⟨bm, 0, none⟩ = some (.string (S m.name)) ∧ X.cell? ⟨bm, 1, none⟩ = some (.slice po m.params.length pc) ∧ X.cell? ⟨bm, 2, none⟩ = some (.string (S m.res)) ∧ X.cell? ⟨bm, 3, none⟩ = some (.bool m.abs) ∧ X.cell? ⟨bm, 4, none⟩ = some (.int .i64 m.loc) ∧ X.cell? ⟨bm, 5, none⟩ = some (.slice co m.code.length cc) ∧ X.cell? ⟨bm, 6, none⟩ = some (.slice ko m.cats.length kc)) := Lib.hid (fun X hX => by
      have ho0 : Only (fun b => b = km) W0 X := (Only.ofBelow HBWR.out).trans hX
      have nk : ∀ b, b ≠ km → ¬ b = km := fun _ h => h
      have hxb := HX.out.keep ho0 (fun e => by have h1 := HBM.out; have h2 := HLT.out.1; omega)
      exact ⟨ho0.cell hkA HKB.out, ho0.cell hcA HCB.out, hxb.cell 0 rfl, hxb.cell 1 rfl, hxb.cell 2 rfl, hxb.cell 3 rfl, hxb.cell 4 rfl, hxb.cell 5 rfl, hxb.cell 6 rfl⟩)
    have HCALL : Hid (∀ X, Below wr.heap.size wr X → Calls Tryz.prog 193 #[entV B x, .agg #[.string (S m.name), .slice po m.params.length pc, .string (S m.res), .bool m.abs, .int .i64 m.loc, .slice co m.code.length cc, .slice ko m.cats.length kc]] X (fun e w1 => ∃ v1, e = .returned v1 ∧ Only (fun b => b = km) wr w1 ∧ (Instr.mapUpdate 190 (.map (some km)) (.string (S m.name)) v1).run Tryz.prog w1 = .ok () (putW Tryz.prog 190 (.map (some km)) (.string (S m.name)) v1 w1) ∧ Kn w0 es x km (ms ++ [m]) (putW Tryz.prog 190 (.map (some km)) (.string (S m.name)) v1 w1) ∧ Only (fun b => b = km) wr (putW Tryz.prog 190 (.map (some km)) (.string (S m.name)) v1 w1))) := Lib.hid (fun X hX => by
      have hwX : Below w.heap.size w X := HB0.out.trans ((HBWR.out.trans (hX.mono HBWR.out.size)).mono HB0.out.size)
      refine (HINH.out X (HW.out.trans (hwX.mono HW.out.size)) (MthR.st.keep HV.out (Only.ofBelow (S := fun _ => False) hwX) (fun _ _ => id))).mono ?_
      rintro e1 w1 ⟨v1, rfl, hv1, hb1⟩
      have hb2 : Below wr.heap.size wr w1 := hX.trans (hb1.mono hX.size)
      obtain ⟨p1, p2, p3⟩ := (HKR.out.keep (Only.ofBelow (S := fun _ => False) hb2) id (fun _ _ => id)).put HMM.out HN.out HL.out HKM.out hv1
      exact ⟨v1, rfl, Only.ofBelow hb2, p1, p2, (Only.ofBelow hb2).trans p3⟩)
    have h0 : Only (fun b => b = km) wr wr := Only.refl _ _
    obtain ⟨g0, g1, g2, g3, g4, g5, g6, g7, g8⟩ := HS3.out wr h0
    clear x0 hknr hbr hlk0 HINH HK0
    first
    | (go_region_held3 (fun X => X.cell? ⟨kb, 0, none⟩ = some (.map (some km)) ∧ X.cell? ⟨cb, 0, none⟩ = some (entV B x) ∧ X.cell? ⟨bm, 0, none⟩ = some (.string (S m.name)) ∧ X.cell? ⟨bm, 1, none⟩ = some (.slice po m.params.length pc) ∧ X.cell? ⟨bm, 2, none⟩ = some (.string (S m.res)) ∧ X.cell? ⟨bm, 3, none⟩ = some (.bool m.abs) ∧ X.cell? ⟨bm, 4, none⟩ = some (.int .i64 m.loc) ∧ X.cell? ⟨bm, 5, none⟩ = some (.slice co m.code.length cc) ∧ X.cell? ⟨bm, 6, none⟩ = some (.slice ko m.cats.length kc)) ((refine HS3.out _ ?_; (repeat (first | (with_reducible exact Only.refl _ _) | (with_reducible assumption) | (with_reducible refine Only.drew ?_)))))
        (first
         | ((with_reducible refine (HCALL.out _ ?_).mono ?_); (focus ((repeat (first | (with_reducible exact Below.refl _ _) | (with_reducible (apply below_step; rotate_left; assumption)) | (with_reducible refine below_drew ?_))); done)); rintro e1 w1 ⟨v1, rfl, o1, p1, p2, p3⟩)))
    | fail
    clear g0 g1 g2 g3 g4 g5 g6 g7 g8 h0
    obtain ⟨_, hs2, hs3⟩ := HS3.out _ p3
    go_upto_region 4 with fail
    refine wp_forget (fun wx => Kn w0 es x km (ms ++ [m]) wx ∧ Only (fun b => b = km) w wx ∧ Box wx bm #[.string (S m.name), .slice po m.params.length pc, .string (S m.res), .bool m.abs, .int .i64 m.loc, .slice co m.code.length cc, .slice ko m.cats.length kc] 33 ∧ wx.cell? ⟨kb, 0, none⟩ = some (.map (some km))) ⟨p2, (Only.ofBelow HB0.out).trans ((Only.ofBelow HBWR.out).trans p3), (HX.out.below HBWR.out).keep p3 (fun e => by have h1 := HBM.out; have h2 := HLT.out.1; omega), (HS3.out _ p3).1⟩ ?_
    rintro wx ⟨hkn, hxo, hxm, hkb⟩
    clear hkA hcA HX HB0 p1 p2 p3 o1 hs2 hs3 HS3 HCALL HKR HBWR
    have HKN := Lib.hid hkn
    have HXO := Lib.hid hxo
    have HXM := Lib.hid hxm
    have hkbx := hkb
    obtain ⟨k, vk, hkk, hvk, hlk, _⟩ := hkn.look m.name HN.out ⟨m, by simp, rfl⟩
    have HVK := Lib.hid hvk
    have HKK := Lib.hid hkk
    obtain ⟨_, _, _, rfl, ⟨qo, qc, rfl⟩, ⟨dd, dc, rfl⟩, ⟨lo, lc, rfl⟩⟩ := mth_shape hvk
    have HS4 : Hid (∀ X, Below wx.heap.size wx X → X.cell? ⟨kb, 0, none⟩ = some (.map (some km)) ∧ X.cell? ⟨bm, 0, none⟩ = some (.string (S m.name)) ∧ X.cell? ⟨bm, 1, none⟩ = some (.slice po m.params.length pc) ∧ X.cell? ⟨bm, 2, none⟩ = some (.string (S m.res)) ∧ X.cell? ⟨bm, 3, none⟩ = some (.bool m.abs) ∧ X.cell? ⟨bm, 4, none⟩ = some (.int .i64 m.loc) ∧ X.cell? ⟨bm, 5, none⟩ = some (.slice co m.code.length cc) ∧ X.cell? ⟨bm, 6, none⟩ = some (.slice ko m.cats.length kc) ∧ (Instr.lookup 190 (.map (some km)) (.string (S m.name)) false).run Tryz.prog X = .ok (.agg #[.string (S k.name), .slice qo k.params.length qc, .string (S k.res), .bool k.abs, .int .i64 k.loc, .slice dd k.code.length dc, .slice lo k.cats.length lc]) X) := Lib.hid (fun X hX => by
      have ho := Only.ofBelow (S := fun _ => False) hX
      have hxb := HXM.out.below hX
      refine ⟨ho.cell hkbx id, hxb.cell 0 rfl, hxb.cell 1 rfl, hxb.cell 2 rfl, hxb.cell 3 rfl, hxb.cell 4 rfl, hxb.cell 5 rfl, hxb.cell 6 rfl, ?_⟩
      obtain ⟨_, _, _, h1, _⟩ := HKN.out
      exact look_keep h1 (key_str m.name HN.out) hX hlk)
    have HSM : Hid (∀ X, Below wx.heap.size wx X → Calls Tryz.prog 16 #[.agg #[.string (S m.name), .slice po m.params.length pc, .string (S m.res), .bool m.abs, .int .i64 m.loc, .slice co m.code.length cc, .slice ko m.cats.length kc]] X (SaidS (signB m) X)) := Lib.hid (fun X hX => csign_any m _ X (MthR.st.keep HV.out (HXO.out.then (Only.ofBelow (S := fun _ => False) hX) (fun _ _ q => q.elim)) (fun b hb (e : b = km) => by have h1 := HKM.out; have h2 : b < w0.heap.size := hb; omega)) HBR.out)
    have HSK : Hid (∀ X, Below wx.heap.size wx X → Calls Tryz.prog 16 #[.agg #[.string (S k.name), .slice qo k.params.length qc, .string (S k.res), .bool k.abs, .int .i64 k.loc, .slice dd k.code.length dc, .slice lo k.cats.length lc]] X (SaidS (signB k) X)) := Lib.hid (fun X hX => csign_any k _ X (MthR.st.keep HVK.out (Only.ofBelow (S := fun _ => False) hX) (fun _ _ => id)) (HBK.out k HKK.out))
    have HCL : Hid (clash es x (ms ++ [m]) m = (signB m != signB k)) := Lib.hid (by unfold clash; rw [HKK.out])
    unfold SaidS at HSM HSK
    clear hkn hxo hxm hkk hvk hkbx hkb hlk
    have h0 : Below wx.heap.size wx wx := Below.refl _ _
    obtain ⟨g0, g1, g2, g3, g4, g5, g6, g7, g8⟩ := HS4.out wx h0
    have e0 := S_toList (signB m)
    have e1 := S_toList (signB k)
    generalize signB m = sm at HSM HCL e0
    generalize signB k = sk at HSK HCL e1
    go_upto_region 4 with fail
    first
    | (go_region_held3 (fun X => X.cell? ⟨kb, 0, none⟩ = some (.map (some km)) ∧ X.cell? ⟨bm, 0, none⟩ = some (.string (S m.name)) ∧ X.cell? ⟨bm, 1, none⟩ = some (.slice po m.params.length pc) ∧ X.cell? ⟨bm, 2, none⟩ = some (.string (S m.res)) ∧ X.cell? ⟨bm, 3, none⟩ = some (.bool m.abs) ∧ X.cell? ⟨bm, 4, none⟩ = some (.int .i64 m.loc) ∧ X.cell? ⟨bm, 5, none⟩ = some (.slice co m.code.length cc) ∧ X.cell? ⟨bm, 6, none⟩ = some (.slice ko m.cats.length kc) ∧ (Instr.lookup 190 (.map (some km)) (.string (S m.name)) false).run Tryz.prog X = .ok (.agg #[.string (S k.name), .slice qo k.params.length qc, .string (S k.res), .bool k.abs, .int .i64 k.loc, .slice dd k.code.length dc, .slice lo k.cats.length lc]) X) ((refine HS4.out _ ?_; (repeat (first | (with_reducible exact Below.refl _ _) | (with_reducible (apply below_step; rotate_left; assumption)) | (with_reducible refine below_drew ?_)))))
        (first
         | ((with_reducible refine (HSM.out _ ?_).mono ?_); (focus ((repeat (first | (with_reducible exact Below.refl _ _) | (with_reducible (apply below_step; rotate_left; assumption)) | (with_reducible refine below_drew ?_))); done)); rintro e1 w1 ⟨rfl, b1⟩)
         | ((with_reducible refine (HSK.out _ ?_).mono ?_); (focus ((repeat (first | (with_reducible exact Below.refl _ _) | (with_reducible (apply below_step; rotate_left; assumption)) | (with_reducible refine below_drew ?_))); done)); rintro e2 w2 ⟨rfl, b2⟩)))
    | fail
    all_goals
      have hb9 : Below wx.heap.size wx w2 := by
        have c1 : Below wx.heap.size wx w1 := (by first | exact below_step h0 b1 | exact below_step (below_drew h0) b1 | exact below_step (below_drew (below_drew h0)) b1)
        first | exact below_step c1 b2 | exact below_step (below_drew c1) b2 | exact below_step (below_drew (below_drew c1)) b2
      have HB9 := Lib.hid hb9
      clear hb9 b1 b2 g0 g1 g2 g3 g4 g5 g6 g7 g8 h0 HS4 HSM HSK
      go_wp2
      go_ret
      refine ⟨⟨sm != sk, by (cases hq : (sm == sk) <;> simp [bne, hq]), fun h => by (rw [HCL.out]; exact h), fun h => ⟨HKN.out.keep (Only.ofBelow (S := fun _ => False) HB9.out) id (fun _ _ => id), by (rw [HCL.out]; exact h)⟩⟩, HXO.out.then (Only.ofBelow (S := fun _ => False) HB9.out) (fun _ _ q => q.elim)⟩
end Go.Proofs.YtpincofjopmaaaaGreatDoor
