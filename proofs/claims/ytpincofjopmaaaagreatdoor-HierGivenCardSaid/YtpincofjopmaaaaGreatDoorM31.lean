/-
  parentsFirst's closure at every state, and parentsFirst.
  Conditions: as each text of it says.
-/
import Derived.Test.YtpincofjopmaaaaGreatDoorM30
import Derived.Laws.EntriesVeiled
set_option maxHeartbeats 8000000
set_option maxRecDepth 100000
namespace Go.Proofs.YtpincofjopmaaaaGreatDoor
open Go.RowKit
theorem visit_true {A : Nat → Prop} {B : Nat → Nat} {T mb : Nat} {es : List Ent} {w0 : World} (hT : Tab A w0 T mb B es) {b3 b4 b5 gv lo : Nat} (c : Nat) (hc : c < es.length)
    (V : List Bool) (O : List Nat) (ov : Value) (us : List Value) (W : World) (hv : V.getD c false = true) (hP : Pf B w0 b3 b4 b5 gv lo es.length V O ov us W) :
    Calls Tryz.prog 115 (#[entV B c] ++ pfCaps b3 b4 b5) W (VisG B w0 b3 b4 b5 gv lo es.length (V, O)) := by
  obtain ⟨e, he⟩ : ∃ e, es[c]? = some e := ⟨_, List.getElem?_eq_getElem hc⟩
  obtain ⟨n, hn⟩ : ∃ n, n = es.length := ⟨_, rfl⟩
  have HP := Lib.hid hP
  have hVl := hP.vlen
  have HS : Hid (∀ W', Below W.heap.size W W' → W'.cell? ⟨b4, 0, none⟩ = some (.slice (some ⟨gv, 0, none⟩) n n) ∧ W'.cell? ⟨B c, 0, none⟩ = some (.int .i64 c) ∧ W'.cell? ⟨gv, c, none⟩ = some (.bool true)) := Lib.hid (fun W' hW => by
    obtain ⟨_, _, _, _, hb, _, _, _, _⟩ := (hT.below (hP.bel.trans (Below.mono hW hP.bel.size))).ent c e he
    refine ⟨by rw [hn]; exact (hP.box4.below hW).cell 0 rfl, hb.cell 0 rfl, ?_⟩
    rw [(hP.row.keep (Only.ofBelow (S := fun _ => False) hW) id).at_ c hc, getD_map (by rw [hVl]; exact hc), hv])
  have h0 : Below W.heap.size W W := Below.refl _ _
  obtain ⟨g1, g2, g3⟩ := HS.out W h0
  have hc0 : (0 : Int) ≤ (c : Int) := by omega
  have hcn : (c : Int) < (n : Int) := by rw [hn]; omega
  clear hT he hP hVl hv hn hc
  go_enter Tryz.func115, Tryz.ntmps115
  go_upto_region 1 with fail
  first
  | (go_region_held (fun W => W.cell? ⟨b4, 0, none⟩ = some (.slice (some ⟨gv, 0, none⟩) n n) ∧ W.cell? ⟨B c, 0, none⟩ = some (.int .i64 c) ∧ W.cell? ⟨gv, c, none⟩ = some (.bool true))
      ((refine HS.out _ ?_; (repeat (first | (with_reducible exact Below.refl _ _) | (with_reducible assumption) | (with_reducible refine below_drew ?_))))) (fail))
  | fail
  all_goals
    clear g1 g2 g3
    go_wp2
    go_ret
    exact ⟨rfl, ov, us, HP.out.drew⟩
theorem visit_any {A : Nat → Prop} {B : Nat → Nat} {T mb : Nat} {es : List Ent} {w0 : World} (hT : Tab A w0 T mb B es) {b3 b4 b5 gv lo : Nat} (hq : PfS w0.heap.size b3 b4 b5 gv lo) (hlen : es.length ≤ 1048576) (hlk : ∀ (i : Nat) (e : Ent), es[i]? = some e → e.lk.length ≤ 9223372036854775807)
    (hpar : ∀ c, ∀ d ∈ parE es c, d < es.length) : ∀ (f : Nat) (V : List Bool) (O : List Nat) (ov : Value) (us : List Value) (d : Nat) (W : World), d < es.length → leftP V ≤ f → O.length + leftP V ≤ es.length → Pf B w0 b3 b4 b5 gv lo es.length V O ov us W →
      Calls Tryz.prog 115 (#[entV B d] ++ pfCaps b3 b4 b5) W (VisG B w0 b3 b4 b5 gv lo es.length (visitP es f (V, O) d))
  | 0, V, O, ov, us, d, W, hd, hl, _, hP => visit_true hT d hd V O ov us W (leftP_none (by rw [hP.vlen]; exact hd) (by omega)) hP
  | f + 1, V, O, ov, us, d, W, hd, hl, hc, hP => visit_step hT hq hlen f d es[d] (List.getElem?_eq_getElem hd) (hlk d _ (List.getElem?_eq_getElem hd)) hpar (visit_any hT hq hlen hlk hpar f) V O ov us W hl hc hP
theorem info_bool : (Tryz.prog.info? 4).map (fun i => (i.zero, i.size, i.bytes)) = some (some (.bool false), 1, 1) := by kernel_rfl
def FirstG (B : Nat → Nat) (es : List Ent) (w : World) (e : Ending) (w' : World) : Prop := ∃ ov, e = .returned ov ∧ Src 1 (EntP B) (fun k => w.heap.size ≤ k) w' ov (orderP es es.length) ∧ Below w.heap.size w w'
theorem first_any {A : Nat → Prop} {B : Nat → Nat} {T mb : Nat} {es : List Ent} (w : World) (hT : Tab A w T mb B es) (hlen : es.length ≤ 1048576) (hlk : ∀ (i : Nat) (e : Ent), es[i]? = some e → e.lk.length ≤ 9223372036854775807)
    (hpar : ∀ c, ∀ d ∈ parE es c, d < es.length) (g : Nat) (hrow : MRow w g es.length 94 ((List.range es.length).map (entV B))) :
    Calls Tryz.prog 65 #[.slice (some ⟨g, 0, none⟩) es.length es.length] w (FirstG B es w) := by
  obtain ⟨j0, hji, hz0, hz1, hz2⟩ := info_parts info_bool
  have hmk := fun W => make_mrow (P := Tryz.prog) 91 4 j0 (.bool false) Tryz.underlying91 hji hz0 hz1 rfl es.length (by rw [hz2]; omega) (by unfold maxLen; omega) W
  have HMK := Lib.hid hmk
  have HV := Lib.hid (fun b3 b4 b5 gv lo hq => visit_any (b3 := b3) (b4 := b4) (b5 := b5) (gv := gv) (lo := lo) hT hq hlen hlk hpar es.length)
  obtain ⟨n, hn⟩ : ∃ n, n = es.length := ⟨_, rfl⟩
  have HN := Lib.hid hn
  have HNB : Hid (n ≤ 1048576) := Lib.hid (by rw [hn]; exact hlen)
  have HROW := Lib.hid hrow
  have HPAR := Lib.hid hpar
  rw [← hn] at HROW ⊢
  have hb1 : Below w.heap.size w (w.alloc (.cells #[.slice none 0 0] 88)) := (Below.refl _ w).alloc (Nat.le_refl _) _
  obtain ⟨w2, hmk2, hrow2, hb2⟩ := HMK.out (w.alloc (.cells #[.slice none 0 0] 88))
  rw [← hn] at hmk2 hrow2
  clear hji hz0 hz1 hz2 hmk hlen hlk hpar hrow hT hn
  go_enter Tryz.func65, Tryz.ntmps65
  go_upto_region 4 with fail
  have hz2 : ((w2.alloc (.cells #[.slice (some ⟨w.heap.size + 1, 0, none⟩) n n] 91)).alloc (.cells #[.nilFunc] 113)).heap.size = w2.heap.size + 2 := by simp
  have X5 := Lib.hid (box_at (W := w2.alloc (.cells #[.slice (some ⟨w.heap.size + 1, 0, none⟩) n n] 91)) (b := w2.heap.size + 1) (cs := #[.nilFunc]) (t := 113) (by simp))
  have X4 := Lib.hid ((Box.new w2 #[.slice (some ⟨w.heap.size + 1, 0, none⟩) n n] 91).below ((Below.refl _ _).alloc (Nat.le_refl _) (.cells #[.nilFunc] 113)))
  have hb3 : Below w2.heap.size w2 ((w2.alloc (.cells #[.slice (some ⟨w.heap.size + 1, 0, none⟩) n n] 91)).alloc (.cells #[.nilFunc] 113)) := ((Below.refl _ w2).alloc (Nat.le_refl _) _).alloc (by simp) _
  have hs1 : (w.alloc (.cells #[.slice none 0 0] 88)).heap.size = w.heap.size + 1 := by simp
  have hx3 := (Box.new w #[.slice none 0 0] 88).below hb2
  have X3 := Lib.hid (hx3.below hb3)
  have XR := Lib.hid (hrow2.keep (Only.ofBelow (S := fun _ => False) hb3) id)
  have hb12 := hb1.trans (hb2.mono hb1.size)
  have HB3 := Lib.hid (hb12.trans (hb3.mono hb12.size))
  have HS2 : Hid (w.heap.size + 2 ≤ w2.heap.size) := Lib.hid (by have := hrow2.lt; rw [hs1] at this; omega)
  rw [hs1] at XR
  clear hb1 hb2 hb3 hx3 hb12 hrow2 hmk2 HMK hs1
  generalize hW : (w2.alloc (.cells #[.slice (some ⟨w.heap.size + 1, 0, none⟩) n n] 91)).alloc (.cells #[.nilFunc] 113) = W3 at X5 X4 X3 XR HB3 hz2 ⊢
  clear hW
  have c5 := X5.out.cell 0 rfl
  have f5 := X5.out.free 0
  generalize w2.heap.size = r at X4 X5 HS2 hz2 c5 f5 ⊢
  have HZ := Lib.hid hz2
  clear hz2
  have hPf : Pf B w w.heap.size r (r + 1) (w.heap.size + 1) (r + 2) es.length (List.replicate n false) [] (.slice none 0 0) [] (W3.setCell ⟨r + 1, 0, none⟩ (.func (.func 115) #[] (pfCaps w.heap.size r (r + 1)))) := by
    have ho : Only (fun k => k = r + 1) W3 (W3.setCell ⟨r + 1, 0, none⟩ (.func (.func 115) #[] (pfCaps w.heap.size r (r + 1)))) := (Only.refl (fun k => k = r + 1) W3).setCell (p := ⟨r + 1, 0, none⟩) rfl _
    have hs := HS2.out
    have hbW := HB3.out
    refine ⟨X3.out.keep ho (fun q => by omega), ?_, X5.out.set 0 _, ?_, TRow.nil _ _, hbW.trans (ho.below hbW.size (fun k (q : k = r + 1) => by omega)), ?_⟩
    · rw [← HN.out]
      exact X4.out.keep ho (fun q => by omega)
    · rw [List.map_replicate, ← HN.out]
      exact XR.out.keep ho (fun q => by omega)
    · rw [World.size_setCell, HZ.out]
      exact Nat.le_refl _
  have hq : PfS w.heap.size w.heap.size r (r + 1) (w.heap.size + 1) (r + 2) := by
    have hs := HS2.out
    constructor <;> omega
  have HQ := Lib.hid hq
  have HPF := Lib.hid hPf
  have HBE : Hid (Below w.heap.size w (W3.setCell ⟨r + 1, 0, none⟩ (.func (.func 115) #[] (pfCaps w.heap.size r (r + 1))))) := Lib.hid (HB3.out.setCell (p := ⟨r + 1, 0, none⟩) (by have := HS2.out; show w.heap.size ≤ r + 1; omega) _)
  clear hq hPf
  go_upto_region 5 with fail
  refine wp_forget (fun W => ∃ ov us, Pf B w w.heap.size r (r + 1) (w.heap.size + 1) (r + 2) es.length (List.replicate n false) [] ov us W) ⟨_, _, HPF.out⟩ ?_
  rintro W4 ⟨ov4, us4, hp4⟩
  have HP4 := Lib.hid hp4
  clear hp4 HPF HBE X3 X4 X5 XR HB3 HZ c5 f5
  have hnb : n ≤ 1048576 := HNB.out
  go_wp2
  go_loopw [14] (fun v14 wr => ∃ (k : Nat) (ov : Value) (us : List Value), k ≤ n ∧ v14 = .int .i64 k ∧ Pf B w w.heap.size r (r + 1) (w.heap.size + 1) (r + 2) es.length (((List.range es.length).take k).foldl (visitP es es.length) (List.replicate n false, [])).1 (((List.range es.length).take k).foldl (visitP es es.length) (List.replicate n false, [])).2 ov us wr) (fun v14 _ => n - (intOf v14).toNat)
  case atStart => exact ⟨0, ov4, us4, Nat.zero_le _, rfl, HP4.out⟩
  case round =>
    obtain ⟨k, ov, us, hk, rfl, hp⟩ := hrel
    have HP := Lib.hid hp
    clear hp
    by_cases hlt : k < n
    · have c0 : wr.cell? ⟨g, k, none⟩ = some (entV B k) := by
        rw [(HROW.out.keep (Only.ofBelow (S := fun _ => False) HP.out.bel) id).at_ k hlt, List.getElem?_map, List.getElem?_range (by first | exact hlt | (rw [← HN.out]; exact hlt))]
        rfl
      have c5 : wr.cell? ⟨r + 1, 0, none⟩ = some (.func (.func 115) #[] (pfCaps w.heap.size r (r + 1))) := HP.out.box5.cell 0 rfl
      have hk0 : (0 : Int) ≤ (k : Int) := by omega
      have hkn : (k : Int) < (n : Int) := by omega
      have hke : k < es.length := by rw [← HN.out]; exact hlt
      have hkr : (List.range es.length)[k]? = some k := List.getElem?_range hke
      have HCALL : Hid (Calls Tryz.prog 115 (#[entV B k] ++ pfCaps w.heap.size r (r + 1)) wr (VisG B w w.heap.size r (r + 1) (w.heap.size + 1) (r + 2) es.length (((List.range es.length).take (k + 1)).foldl (visitP es es.length) (List.replicate n false, [])))) := Lib.hid (by
        rw [fold_take (visitP es es.length) hkr]
        have hl := HP.out.vlen
        refine HV.out w.heap.size r (r + 1) (w.heap.size + 1) (r + 2) HQ.out _ _ ov us k wr hke (Nat.le_trans (leftP_le_len _) (Nat.le_of_eq hl)) ?_ HP.out
        have h1 := foldP_cap HPAR.out es.length ((List.range es.length).take k) (List.replicate n false, []) (by simp [HN.out]) (fun d hd => List.mem_range.1 (List.mem_of_mem_take hd))
        refine Nat.le_trans h1 ?_
        have h2 := leftP_le_len (List.replicate n false)
        rw [List.length_replicate] at h2
        have h3 := HN.out
        show 0 + leftP (List.replicate n false) ≤ es.length
        omega)
      clear hke hkr
      go_wp2_with fail
      refine HCALL.out.mono ?_
      rintro e5 w5 ⟨rfl, ov5, us5, hp5⟩
      have HP5 := Lib.hid hp5
      clear hp5 HCALL c0 c5
      go_wp2
      go_roundw
      case rel => exact ⟨k + 1, ov5, us5, by omega, by go_num, HP5.out⟩
      case measure => simp [intOf]; omega
    · obtain rfl : k = n := by omega
      have e1 : (List.range es.length).take k = List.range es.length := List.take_of_length_le (by rw [List.length_range, HN.out]; exact Nat.le_refl _)
      rw [e1] at HP
      have hsh := HP.out.ord.shape
      obtain ⟨ao, cp, rfl⟩ := hsh
      have c3 := HP.out.box3.cell 0 rfl
      go_wp2
      go_ret
      refine ⟨_, rfl, ?_, HP.out.bel⟩
      have h1 := (EntP.st B).srcMono (A' := fun k => w.heap.size ≤ k) (HP.out.ord.src (EntP.st B)) (fun q _ hq => by have h2 : r + 2 ≤ q := hq; have h3 := HS2.out; show w.heap.size ≤ q; omega)
      unfold orderP
      rw [← HN.out] at h1 ⊢
      exact h1
abbrev doneN : Nat := 9223372036854775807
structure Grp where
  met : List Nat
  cnt : Nat
  opn : List Nat
  loop : List Bool
def intV (z : Nat) : Value := .int .i64 z
def closeG (big : Bool) (s : Grp) (l : List Nat) : Grp := ⟨l.foldl (fun m c => m.set c doneN) s.met, s.cnt, s.opn, l.foldl (fun m c => m.set c big) s.loop⟩
def finishG (s : Grp) (first : Nat) : Grp :=
  let t := closeG (decide (1 < (s.opn.drop first).length)) s (s.opn.drop first)
  ⟨t.met, t.cnt, s.opn.take first, t.loop⟩
structure GrS (lo0 gb gm gl lo : Nat) : Prop where
  lb : lo0 ≤ gb
  lm : lo0 ≤ gm
  ll : lo0 ≤ gl
  ub : gb < lo
  um : gm < lo
  ul : gl < lo
  bm : gb ≠ gm
  bl : gb ≠ gl
  ml : gm ≠ gl
structure Gr (B : Nat → Nat) (w0 : World) (gb gm gl lo n : Nat) (s : Grp) (ov : Value) (us : List Value) (W : World) : Prop where
  box : Box W gb #[.slice (some ⟨gm, 0, none⟩) n n, .int .i64 s.cnt, ov, .slice (some ⟨gl, 0, none⟩) n n] 146
  met : MRow W gm n 3 (s.met.map intV)
  loop : MRow W gl n 4 (s.loop.map .bool)
  opn : TRow 1 94 (EntP B) lo W ov s.opn us
  bel : Below w0.heap.size w0 W
  low : lo ≤ W.heap.size
theorem Gr.keep {B : Nat → Nat} {w0 : World} {gb gm gl lo n : Nat} {s : Grp} {ov : Value} {us : List Value} {W W' : World} (h : Gr B w0 gb gm gl lo n s ov us W) (hb : Below W.heap.size W W') : Gr B w0 gb gm gl lo n s ov us W' := by
  have ho := Only.ofBelow (S := fun _ => False) hb
  exact ⟨h.box.below hb, h.met.keep ho id, h.loop.keep ho id, h.opn.below (EntP.st B) hb, h.bel.trans (hb.mono h.bel.size), Nat.le_trans h.low hb.size⟩
theorem Gr.drew {B : Nat → Nat} {w0 : World} {gb gm gl lo n : Nat} {s : Grp} {ov : Value} {us : List Value} {W : World} (h : Gr B w0 gb gm gl lo n s ov us W) : Gr B w0 gb gm gl lo n s ov us W.drew := h.keep (below_drew (Below.refl _ _))
theorem Gr.note {B : Nat → Nat} {w0 : World} {gb gm gl lo n : Nat} {s : Grp} {ov : Value} {us : List Value} {W : World} (h : Gr B w0 gb gm gl lo n s ov us W) (q : GrS w0.heap.size gb gm gl lo) (c z : Nat) :
    Gr B w0 gb gm gl lo n ⟨s.met.set c z, s.cnt, s.opn, s.loop⟩ ov us (W.setCell ⟨gm, c, none⟩ (intV z)) := by
  have ho : Only (fun k => k = gm) W (W.setCell ⟨gm, c, none⟩ (intV z)) := (Only.refl (fun k => k = gm) W).setCell (p := ⟨gm, c, none⟩) rfl _
  refine ⟨h.box.keep ho q.bm, ?_, h.loop.keep ho (fun e => q.ml e.symm), h.opn.past (EntP.st B) ho (fun k hk (e : k = gm) => by have := q.um; omega), h.bel.trans (ho.below h.bel.size (fun k (e : k = gm) => by have := q.lm; omega)), Nat.le_trans h.low ho.size⟩
  have := h.met.set c (intV z)
  rw [List.map_set]
  exact this
theorem Gr.flag {B : Nat → Nat} {w0 : World} {gb gm gl lo n : Nat} {s : Grp} {ov : Value} {us : List Value} {W : World} (h : Gr B w0 gb gm gl lo n s ov us W) (q : GrS w0.heap.size gb gm gl lo) (c : Nat) (b : Bool) :
    Gr B w0 gb gm gl lo n ⟨s.met, s.cnt, s.opn, s.loop.set c b⟩ ov us (W.setCell ⟨gl, c, none⟩ (.bool b)) := by
  have ho : Only (fun k => k = gl) W (W.setCell ⟨gl, c, none⟩ (.bool b)) := (Only.refl (fun k => k = gl) W).setCell (p := ⟨gl, c, none⟩) rfl _
  refine ⟨h.box.keep ho q.bl, h.met.keep ho q.ml, ?_, h.opn.past (EntP.st B) ho (fun k hk (e : k = gl) => by have := q.ul; omega), h.bel.trans (ho.below h.bel.size (fun k (e : k = gl) => by have := q.ll; omega)), Nat.le_trans h.low ho.size⟩
  have := h.loop.set c (.bool b)
  rw [List.map_set]
  exact this
theorem closeG_take {big : Bool} {s : Grp} {l : List Nat} {k c : Nat} (h : l[k]? = some c) : closeG big s (l.take (k + 1)) = ⟨(closeG big s (l.take k)).met.set c doneN, s.cnt, s.opn, (closeG big s (l.take k)).loop.set c big⟩ := by
  unfold closeG
  rw [fold_take (fun (m : List Nat) c => m.set c doneN) h, fold_take (fun (m : List Bool) c => m.set c big) h]
theorem TRow.cut {α : Type} {n : Nat} {t : TypeId} {R : ElemRel α} {lo : Nat} {w : World} {g c len : Nat} {m : List α} {us : List Value} (h : TRow n t R lo w (.slice (some ⟨g, 0, none⟩) len c) m us) (hl : len = m.length) (k : Nat) (hk : k ≤ m.length) :
    TRow n t R lo w (.slice (some ⟨g, 0, none⟩) k c) (m.take k) (us.take k) := by
  subst hl
  have htl : (m.take k).length = k := by rw [List.length_take]; omega
  refine ⟨?_, h.own, by rw [List.length_take, List.length_take, h.len], fun u hu => h.size u (List.mem_of_mem_take hu), fun j x hj => ?_⟩
  · rw [htl]
    rcases h.row.2 with ⟨h', _⟩ | ⟨g', cap', cur, h', hb, hg, hnc, hcm, hcs, htake⟩
    · simp at h'
    · simp only [Value.slice.injEq, Option.some.injEq, Addr.mk.injEq, and_true, true_and] at h'
      obtain ⟨rfl, rfl⟩ := h'
      have hcl : cellsL (us.take k) = (cellsL us).take (k * n) := by
        have e : us = us.take k ++ us.drop k := (List.take_append_drop k us).symm
        have h1 : (cellsL (us.take k)).length = k * n := by
          rw [cellsL_len _ (fun u hu => h.size u (List.mem_of_mem_take hu)), List.length_take, h.len]
          rw [Nat.min_eq_left hk]
        have h2 : cellsL us = cellsL (us.take k) ++ cellsL (us.drop k) := by rw [← cellsL_append, List.take_append_drop]
        rw [h2, List.take_append_of_le_length (l₁ := cellsL (us.take k)) (Nat.le_of_eq h1.symm)]
        exact (List.take_of_length_le (Nat.le_of_eq h1)).symm
      refine ⟨?_, .inr ⟨g, c, cur, rfl, hb, hg, by omega, hcm, hcs, ?_⟩⟩
      · rw [cellsL_len _ (fun u hu => h.size u (List.mem_of_mem_take hu)), List.length_take, h.len, Nat.min_eq_left hk]
      · rw [hcl, ← htake, List.take_take, Nat.min_eq_left (Nat.mul_le_mul_right n hk)]
  · rw [List.getElem?_take] at hj
    split at hj
    · rename_i hjk
      obtain ⟨u, h1, h2⟩ := h.each j x hj
      exact ⟨u, by rw [List.getElem?_take, if_pos hjk]; exact h1, h2⟩
    · cases hj
def FinG (B : Nat → Nat) (w0 : World) (gb gm gl lo n : Nat) (s : Grp) (ov0 : Value) (W : World) (e : Ending) (w' : World) : Prop := e = .returned (.tuple #[]) ∧ ∃ ov us, Gr B w0 gb gm gl lo n s ov us w' ∧ ov.ownBlock = ov0.ownBlock ∧ Only (fun k => k = gb ∨ k = gm ∨ k = gl) W w'
theorem finish_any {A : Nat → Prop} {B : Nat → Nat} {T mb : Nat} {es : List Ent} {w0 : World} (hT : Tab A w0 T mb B es) {gb gm gl lo : Nat} (hq : GrS w0.heap.size gb gm gl lo) (hlen : es.length ≤ 1048576) (s : Grp) (ov : Value) (us : List Value) (W : World) (first : Nat)
    (hs : Gr B w0 gb gm gl lo es.length s ov us W) (hf : first < s.opn.length) (hop : ∀ c ∈ s.opn, c < es.length) (hol : s.opn.length ≤ 1048576) :
    Calls Tryz.prog 182 #[.pointer (some ⟨gb, 0, none⟩), .int .i64 (first : Nat)] W (FinG B w0 gb gm gl lo es.length (finishG s first) ov W) := by
  obtain ⟨g, cp, rfl, _, _⟩ := World.ownsRow.form hs.opn.row (Nat.lt_of_le_of_lt (Nat.zero_le _) hf)
  obtain ⟨n, hn⟩ : ∃ n, n = es.length := ⟨_, rfl⟩
  obtain ⟨m, hm⟩ : ∃ m, m = s.opn.length := ⟨_, rfl⟩
  have hmc : m ≤ cp := by
    rcases hs.opn.row.2 with ⟨h', _⟩ | ⟨g', cap', cur, h', hb, hg, hnc, hcm, _⟩
    · simp at h'
    · simp only [Value.slice.injEq, Option.some.injEq, Addr.mk.injEq, and_true, true_and] at h'
      obtain ⟨_, rfl⟩ := h'
      rw [hm]; exact hnc
  have hcp : cp ≤ 9223372036854775807 := by
    rcases hs.opn.row.2 with ⟨h', _⟩ | ⟨g', cap', cur, h', hb, hg, hnc, hcm, _⟩
    · simp at h'
    · simp only [Value.slice.injEq, Option.some.injEq, Addr.mk.injEq, and_true, true_and] at h'
      obtain ⟨_, rfl⟩ := h'
      exact hcm
  rw [← hm] at hf hol
  have hs' := hs
  rw [← hm, ← hn] at hs'
  have HS := Lib.hid hs'
  have HM := Lib.hid hm
  have HN := Lib.hid hn
  have HQ := Lib.hid hq
  have HT := Lib.hid hT
  have HOP := Lib.hid hop
  have HBC : Hid (∀ c, c < es.length → ∀ W, Below w0.heap.size w0 W → W.cell? ⟨B c, 0, none⟩ = some (.int .i64 c)) := Lib.hid (fun c hc W hW => by
    obtain ⟨_, _, _, _, hb, _, _, _, _⟩ := (hT.below hW).ent c es[c] (List.getElem?_eq_getElem hc)
    exact hb.cell 0 rfl)
  have hnb : n ≤ 1048576 := by rw [hn]; exact hlen
  have p2 : W.cell? ⟨gb, 2, none⟩ = some (.slice (some ⟨g, 0, none⟩) m cp) := hs'.box.cell 2 rfl
  have hf0 : (0 : Int) ≤ (first : Int) := by omega
  have hfm : (first : Int) ≤ (m : Int) := by omega
  have hne : ¬ cp = first := by omega
  have hmcp : (m : Int) ≤ (cp : Int) := by omega
  clear hs hs' hq hT hop hm
  rw [← hn]
  clear hn
  go_enter Tryz.func182, Tryz.ntmps182
  go_wp2_with fail
  have HNE := Lib.hid hne
  obtain ⟨L, hL⟩ : ∃ L, L = s.opn.drop first := ⟨_, rfl⟩
  have hLl : L.length = m - first := by rw [hL, List.length_drop, ← HM.out]
  have HLL := Lib.hid hLl
  have HL := Lib.hid hL
  have hmf : m - first ≤ 1048576 := by omega
  obtain ⟨k0, hk0⟩ : ∃ k0, k0 = m - first := ⟨_, rfl⟩
  have HK0 := Lib.hid hk0
  rw [← hk0] at hmf HLL ⊢
  clear hL hLl hk0 p2
  obtain ⟨big, hbig⟩ : ∃ big, big = decide (1 < k0) := ⟨_, rfl⟩
  have HBIG := Lib.hid hbig
  clear hbig
  go_loopw [15] (fun v15 wr => ∃ (k : Nat), k ≤ k0 ∧ v15 = .int .i64 k ∧ Gr B w0 gb gm gl lo n (closeG big s (L.take k)) (.slice (some ⟨g, 0, none⟩) m cp) us wr ∧ Only (fun q => q = gb ∨ q = gm ∨ q = gl) W wr) (fun v15 _ => k0 - (intOf v15).toNat)
  case atStart => exact ⟨0, Nat.zero_le _, rfl, HS.out, Only.refl _ _⟩
  case round =>
    obtain ⟨k, hk, rfl, hg, hon⟩ := hrel
    have HON := Lib.hid hon
    clear hon
    by_cases hlt : k < k0
    · obtain ⟨c, hc⟩ : ∃ c, L[k]? = some c := ⟨_, List.getElem?_eq_getElem (by rw [HLL.out]; exact hlt)⟩
      have hco : s.opn[first + k]? = some c := by rw [← List.getElem?_drop, ← HL.out]; exact hc
      have hcl := HOP.out c (List.mem_of_getElem? hco)
      have HC := Lib.hid hc
      have hcn : c < n := by rw [HN.out]; exact hcl
      obtain ⟨u, hu1, hu2⟩ := hg.opn.each (first + k) c hco
      obtain rfl := hu2
      have hrow : wr.cell? ⟨g, first + k, none⟩ = some (entV B c) := by
        have h1 := World.ownsRow.cells hg.opn.row (g := g) rfl (first + k) (entV B c) (by
          have h2 := cellsL_at us (first + k) 0 (entV B c) hg.opn.size hu1 (by decide)
          rw [Nat.mul_one] at h2
          exact h2)
        rw [Addr.add_mid, Nat.zero_add] at h1
        exact h1
      have b0 := HBC.out c hcl wr hg.bel
      have q0 := hg.box.cell 0 rfl
      obtain ⟨z0, m0⟩ : ∃ z0, wr.cell? ⟨gm, c, none⟩ = some z0 := ⟨_, by rw [hg.met.at_ c hcn]; exact List.getElem?_eq_getElem (by rw [hg.met.len]; exact hcn)⟩
      have f0 := hg.met.free c
      have HG := Lib.hid hg
      have hk1 : (0 : Int) ≤ (k : Int) := by omega
      have hk2 : (k : Int) < (k0 : Int) := by omega
      have hc1 : (0 : Int) ≤ (c : Int) := by omega
      have hc2 : (c : Int) < (n : Int) := by omega
      clear hg hu1 hc hco
      go_upto_region 4 with fail
      go_region
      all_goals
        have hn1 : Gr B w0 gb gm gl lo n ⟨(closeG big s (L.take k)).met.set c doneN, s.cnt, s.opn, (closeG big s (L.take k)).loop⟩ (.slice (some ⟨g, 0, none⟩) m cp) us ((wr.setCell ⟨gm, c, none⟩ (.int .i64 9223372036854775807)).drew) ∧ Only (fun q => q = gb ∨ q = gm ∨ q = gl) W ((wr.setCell ⟨gm, c, none⟩ (.int .i64 9223372036854775807)).drew) := ⟨(HG.out.note HQ.out c doneN).drew, (HON.out.setCell (p := ⟨gm, c, none⟩) (.inr (.inl rfl)) _).drew⟩
        clear q0 m0 f0 b0 hrow HG
        go_upto_region 5 with fail
        refine wp_forget (fun V => Gr B w0 gb gm gl lo n ⟨(closeG big s (L.take k)).met.set c doneN, s.cnt, s.opn, (closeG big s (L.take k)).loop⟩ (.slice (some ⟨g, 0, none⟩) m cp) us V ∧ Only (fun q => q = gb ∨ q = gm ∨ q = gl) W V) hn1 ?_
        rintro W3 ⟨hg3, hon3⟩
        have HON3 := Lib.hid hon3
        clear hn1 hon3 HON
        have b0 := HBC.out c hcl W3 hg3.bel
        have q0 := hg3.box.cell 3 rfl
        obtain ⟨z0, m0⟩ : ∃ z0, W3.cell? ⟨gl, c, none⟩ = some z0 := ⟨_, by rw [hg3.loop.at_ c hcn]; exact List.getElem?_eq_getElem (by rw [hg3.loop.len]; exact hcn)⟩
        have f0 := hg3.loop.free c
        have HG3 := Lib.hid hg3
        clear hg3
        go_region
        all_goals
          have hn2 : Gr B w0 gb gm gl lo n (closeG big s (L.take (k + 1))) (.slice (some ⟨g, 0, none⟩) m cp) us ((W3.setCell ⟨gl, c, none⟩ (.bool big)).drew) ∧ Only (fun q => q = gb ∨ q = gm ∨ q = gl) W ((W3.setCell ⟨gl, c, none⟩ (.bool big)).drew) := by
            rw [closeG_take HC.out]
            exact ⟨(HG3.out.flag HQ.out c big).drew, (HON3.out.setCell (p := ⟨gl, c, none⟩) (.inr (.inr rfl)) _).drew⟩
          have HN2 := Lib.hid hn2
          clear q0 m0 f0 b0 hn2 HG3 HON3
          have hbb : decide ((1 : Int) < (k0 : Int)) = big := by
            rw [HBIG.out]
            exact decide_eq_decide.2 (by omega)
          rw [hbb]
          generalize (W3.setCell ⟨gl, c, none⟩ (.bool big)).drew = W4 at HN2 ⊢
          go_wp2
          go_roundw
          case rel => exact ⟨k + 1, by omega, by go_num, HN2.out.1, HN2.out.2⟩
          case measure => simp [intOf]; omega
    · obtain rfl : k = k0 := by omega
      have hLk : L.take k = L := List.take_of_length_le (by rw [HLL.out]; exact Nat.le_refl _)
      rw [hLk] at hg
      have p2 : wr.cell? ⟨gb, 2, none⟩ = some (.slice (some ⟨g, 0, none⟩) m cp) := hg.box.cell 2 rfl
      have f2 := hg.box.free 2
      have HG := Lib.hid hg
      clear hg
      go_wp2
      go_end0
      have ho2 : Only (fun q => q = gb) wr (wr.setCell ⟨gb, 2, none⟩ (.slice (some ⟨g, 0, none⟩) first cp)) := (Only.refl (fun q => q = gb) wr).setCell (p := ⟨gb, 2, none⟩) rfl _
      have hub := HQ.out.ub
      have hlb := HQ.out.lb
      have e1 : finishG s first = ⟨(closeG big s L).met, s.cnt, s.opn.take first, (closeG big s L).loop⟩ := by
        unfold finishG
        rw [← HL.out, HLL.out, ← HBIG.out]
        rfl
      rw [e1]
      refine ⟨rfl, _, us.take first, ⟨HG.out.box.set 2 (.slice (some ⟨g, 0, none⟩) first cp), HG.out.met.keep ho2 (fun e => HQ.out.bm e.symm), HG.out.loop.keep ho2 (fun e => HQ.out.bl e.symm), ?_, HG.out.bel.trans (ho2.below HG.out.bel.size (fun q (e : q = gb) => by omega)), Nat.le_trans HG.out.low ho2.size⟩, rfl, HON.out.trans (ho2.mono (fun q _ h => .inl h))⟩
      exact (HG.out.opn.cut HM.out first (by show first ≤ s.opn.length; have := HM.out; omega)).past (EntP.st B) ho2 (fun q hq (e : q = gb) => by omega)
end Go.Proofs.YtpincofjopmaaaaGreatDoor
