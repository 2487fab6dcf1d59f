/-
  What is met on the way up through what classes are like, each but once.
  Conditions: none; these are laws of lists.
  A map of whole numbers to how often each was met.
  Conditions: none; these are laws of worlds.
  The walks of an entry's interfaces, of the function that it hands on, and of above.
  Conditions: the table lies in memory that was there before.
-/
import Derived.Test.YtpincofjopmaaaaGreatDoorM19
import Derived.Deep.RegionHeld
import Derived.RegionTactic
import Derived.Deep.DrawnRows
import Derived.Deep.DeepCutAuto
namespace Go.Proofs.YtpincofjopmaaaaGreatDoor
open Go.RowKit
def lkOf (es : List Ent) (i : Nat) : List Nat := match es[i]? with | some e => e.lk | none => []
theorem lkOf_eq {es : List Ent} {i : Nat} {e : Ent} (h : es[i]? = some e) : lkOf es i = e.lk := by unfold lkOf; rw [h]
/-- What is newly met, where M was met before: with each that is new all that it is like. -/
def vis (es : List Ent) : Nat → List Nat → List Nat → List Nat
  | 0, _, _ => []
  | f + 1, M, l => l.foldl (fun acc d => if (M ++ acc).contains d then acc else acc ++ d :: vis es f (M ++ acc ++ [d]) (lkOf es d)) []
def stepV (es : List Ent) (f : Nat) (M acc : List Nat) (d : Nat) : List Nat := if (M ++ acc).contains d then acc else acc ++ d :: vis es f (M ++ acc ++ [d]) (lkOf es d)
def accV (es : List Ent) (f : Nat) (M l : List Nat) (k : Nat) : List Nat := (l.take k).foldl (stepV es f M) []
theorem vis_succ (es : List Ent) (f : Nat) (M l : List Nat) : vis es (f + 1) M l = accV es f M l l.length := by
  unfold accV
  rw [List.take_length]
  rfl
theorem accV_zero (es : List Ent) (f : Nat) (M l : List Nat) : accV es f M l 0 = [] := rfl
theorem accV_succ (es : List Ent) (f : Nat) (M l : List Nat) (k d : Nat) (h : l[k]? = some d) : accV es f M l (k + 1) = stepV es f M (accV es f M l k) d := by
  unfold accV
  rw [List.take_add_one, h, List.foldl_append]
  rfl
theorem stepV_pre (es : List Ent) (f : Nat) (M acc : List Nat) (d : Nat) : acc <+: stepV es f M acc d := by
  unfold stepV
  split
  · exact List.prefix_rfl
  · exact List.prefix_append _ _
theorem foldl_pre (es : List Ent) (f : Nat) (M : List Nat) : ∀ (l acc : List Nat), acc <+: l.foldl (stepV es f M) acc
  | [], _ => List.prefix_rfl
  | d :: l, acc => (stepV_pre es f M acc d).trans (foldl_pre es f M l _)
theorem accV_pre (es : List Ent) (f : Nat) (M l : List Nat) (k : Nat) : accV es f M l k <+: vis es (f + 1) M l := by
  rw [vis_succ]
  unfold accV
  rw [List.take_length]
  conv => rhs; rw [← List.take_append_drop k l, List.foldl_append]
  exact foldl_pre es f M _ _
/-- How deep what is like others goes. -/
def Deep (es : List Ent) : Nat → List Nat → Prop
  | 0, l => l = []
  | f + 1, l => ∀ d ∈ l, ∃ e, es[d]? = some e ∧ Deep es f e.lk
theorem pre_get {α : Type} {a b : List α} (h : a <+: b) {k : Nat} {x : α} (hx : a[k]? = some x) : b[k]? = some x := by
  obtain ⟨c, rfl⟩ := h
  rw [List.getElem?_append_left (List.getElem?_eq_some_iff.1 hx).1]
  exact hx
/-- What is met newly at the place k: that one, and then what it is like. -/
theorem vis_at {es : List Ent} {f : Nat} {M l : List Nat} {k d : Nat} (h : l[k]? = some d) (hn : (M ++ accV es f M l k).contains d = false) :
    (vis es (f + 1) M l)[(accV es f M l k).length]? = some d ∧ (∀ (j x : Nat), (vis es f (M ++ accV es f M l k ++ [d]) (lkOf es d))[j]? = some x → (vis es (f + 1) M l)[(accV es f M l k).length + 1 + j]? = some x) ∧
    accV es f M l (k + 1) = accV es f M l k ++ d :: vis es f (M ++ accV es f M l k ++ [d]) (lkOf es d) := by
  have hs : accV es f M l (k + 1) = accV es f M l k ++ d :: vis es f (M ++ accV es f M l k ++ [d]) (lkOf es d) := by
    rw [accV_succ es f M l k d h]
    unfold stepV
    rw [hn]
    rfl
  have hp := accV_pre es f M l (k + 1)
  refine ⟨pre_get hp ?_, fun j x hx => pre_get hp ?_, hs⟩
  · rw [hs, List.getElem?_append_right (Nat.le_refl _), Nat.sub_self]
    rfl
  · rw [hs, List.getElem?_append_right (by omega), show (accV es f M l k).length + 1 + j - (accV es f M l k).length = j + 1 from by omega, List.getElem?_cons_succ]
    exact hx
theorem accV_same {es : List Ent} {f : Nat} {M l : List Nat} {k d : Nat} (h : l[k]? = some d) (hn : (M ++ accV es f M l k).contains d = true) : accV es f M l (k + 1) = accV es f M l k := by
  rw [accV_succ es f M l k d h]
  unfold stepV
  rw [hn]
  rfl
/-- Met but once. -/
theorem nodup_len : ∀ (n : Nat) (l : List Nat), l.Nodup → (∀ x ∈ l, x < n) → l.length ≤ n
  | 0, l, _, h => by
    cases l with
    | nil => simp
    | cons x l => exact absurd (h x List.mem_cons_self) (Nat.not_lt_zero _)
  | n + 1, l, hd, h => by
    have h1 := nodup_len n (l.erase n) (hd.erase n) (fun x hx => by
      have h2 := h x (List.mem_of_mem_erase hx)
      have h3 : x ≠ n := (hd.mem_erase_iff.1 hx).1
      omega)
    have h2 := List.length_erase_le (a := n) (l := l)
    have h3 : l.length ≤ (l.erase n).length + 1 := by
      rw [List.length_erase]
      split <;> omega
    omega
theorem vis_fresh (es : List Ent) : ∀ (f : Nat) (M l : List Nat), M.Nodup → (M ++ vis es f M l).Nodup
  | 0, M, l, h => by simpa [vis] using h
  | f + 1, M, l, h => by
    have go : ∀ (l acc : List Nat), (M ++ acc).Nodup → (M ++ l.foldl (stepV es f M) acc).Nodup := by
      intro l
      induction l with
      | nil => intro acc ha; exact ha
      | cons d l ih =>
        intro acc ha
        refine ih _ ?_
        unfold stepV
        split
        · exact ha
        · rename_i hc
          have hc' : d ∉ M ++ acc := by simpa using hc
          have h1 : (M ++ acc ++ [d]).Nodup := by
            rw [List.nodup_append]
            refine ⟨ha, by simp, fun a ha' b hb => ?_⟩
            have : b = d := by simpa using hb
            subst this
            intro e
            subst e
            exact hc' ha'
          have h2 := vis_fresh es f _ (lkOf es d) h1
          simpa [List.append_assoc] using h2
    have := go l [] (by simpa using h)
    rw [vis_succ]
    unfold accV
    rw [List.take_length]
    exact this
end Go.Proofs.YtpincofjopmaaaaGreatDoor
namespace Go.Proofs.YtpincofjopmaaaaGreatDoor
open Go.RowKit
/-- Block mm is a map in which those of M were met once. -/
def Met (w : World) (mm : Nat) (M : List Nat) : Prop :=
  ∃ m f h, MapF Tryz.prog 3 (.int .i64 0) w mm m f h ∧ m ≤ M.length ∧ ∀ i : Nat, f (.int .i64 i) = .int .i64 (if M.contains i then 1 else 0)
theorem Met.keep {S : Nat → Prop} {w w' : World} {mm : Nat} {M : List Nat} (q : Met w mm M) (ho : Only S w w') (hn : ¬ S mm) : Met w' mm M := by
  obtain ⟨m, f, h, h1, h2, h3⟩ := q
  exact ⟨m, f, h, h1.keep ho hn, h2, h3⟩
theorem Met.lt {w : World} {mm : Nat} {M : List Nat} (q : Met w mm M) : mm < w.heap.size := let ⟨_, _, _, h, _⟩ := q; h.lt
theorem Met.new (w : World) : Met (w.alloc (.map #[] 0)) w.heap.size [] := ⟨0, _, _, MapF.new _ _ _ _, Nat.le_refl _, fun i => by simp⟩
theorem keyed_int : Maps.Keyed Tryz.prog 3 := Maps.int_keyed Tryz.underlying3
theorem key_int (i : Nat) (hi : i ≤ 9223372036854775807) : keyOf Tryz.prog 3 (.int .i64 i) = some (.int .i64 i) :=
  Maps.keyOf_int_mk Tryz.underlying3 (WalkArith.wf_i64 (by omega))
theorem zero_int (w : World) : (zeroValue 3).run Tryz.prog w = .ok (.int .i64 0) w := by kernel_rfl
theorem Met.look {w : World} {mm : Nat} {M : List Nat} (q : Met w mm M) (i : Nat) (hi : i ≤ 9223372036854775807) :
    (Instr.lookup 155 (.map (some mm)) (.int .i64 i) false).run Tryz.prog w = .ok (.int .i64 (if M.contains i then 1 else 0)) w := by
  obtain ⟨m, f, h, h1, h2, h3⟩ := q
  rw [h1.look keyed_int Tryz.underlying155 (zero_int w) (key_int i hi), h3]
theorem Met.put {w : World} {mm : Nat} {M : List Nat} (q : Met w mm M) (i : Nat) (hi : i ≤ 9223372036854775807) (hM : M.length < 9223372036854775807) :
    (Instr.mapUpdate 155 (.map (some mm)) (.int .i64 i) (.int .i64 1)).run Tryz.prog w = .ok () (putW Tryz.prog 155 (.map (some mm)) (.int .i64 i) (.int .i64 1) w) ∧
      Met (putW Tryz.prog 155 (.map (some mm)) (.int .i64 i) (.int .i64 1) w) mm (M ++ [i]) ∧ Only (fun k => k = mm) w (putW Tryz.prog 155 (.map (some mm)) (.int .i64 i) (.int .i64 1) w) ∧
      (putW Tryz.prog 155 (.map (some mm)) (.int .i64 i) (.int .i64 1) w).heap.size = w.heap.size := by
  obtain ⟨m, f, h, h1, h2, h3⟩ := q
  obtain ⟨r1, r2, r3, r4⟩ := h1.put keyed_int Tryz.underlying155 (by unfold maxLen; omega) (val := .int .i64 1) (key_int i hi)
  refine ⟨r1, ⟨_, _, _, r2, ?_, fun j => ?_⟩, r3, r4⟩
  · rw [List.length_append]
    split <;> simp <;> omega
  · by_cases e : j = i
    · subst e
      rw [updF_same]
      simp
    · have hne : (Lit.int .i64 (j : Int)) ≠ .int .i64 (i : Int) := by
        intro h
        injection h with _ h
        omega
      rw [updF_other _ _ hne, h3]
      have : (M ++ [i]).contains j = M.contains j := by simp [e]
      rw [this]
end Go.Proofs.YtpincofjopmaaaaGreatDoor
namespace Go.Proofs.YtpincofjopmaaaaGreatDoor
open Go.RowKit
set_option maxHeartbeats 2000000 in
set_option maxRecDepth 100000 in
theorem ifs_walk {A : Nat → Prop} {B : Nat → Nat} {T mb : Nat} {es : List Ent} {w0 : World} (hT : Tab A w0 T mb B es) (F : Nat) (caps : Array Value) (mm i : Nat) (e : Ent) (hi : es[i]? = some e) (J K : Nat → World → Prop) (w : World) (hw : Below w0.heap.size w0 w)
    (hJ : ∀ k w', J k w' → Below w0.heap.size w0 w')
    (h0 : J 0 ((w.alloc (.cells #[.map (some mm)] 155)).alloc (.cells #[.func (.func F) #[] caps] 113)))
    (hF : Steps B 201 #[.pointer (some ⟨w.heap.size, 0, none⟩), .pointer (some ⟨w.heap.size + 1, 0, none⟩)] e.lk J K) (hlen : e.lk.length ≤ 9223372036854775807) :
    Calls Tryz.prog 130 #[.pointer (some ⟨B i, 0, none⟩), .map (some mm), .func (.func F) #[] caps] w (YesNo (fun w' => ∃ k, k < e.lk.length ∧ K k w') (J e.lk.length)) := by
  have hmf : ∀ (fn : Fn) (first cap : Array Value) (w : World), (Instr.makeFunc fn first cap).run Tryz.prog w = .ok (.func fn first cap) w := fun _ _ _ _ => rfl
  obtain ⟨lv, fv, mv, sv, hb, _, _, _, hs⟩ := hT.ent i _ hi
  have HC := Lib.hid (contf_ent (B := B) (A := A) 201 _ e.lk sv J K _ (enters_fn Tryz.func201 (by kernel_rfl) rfl) (fun k w' h => (EntP.st B).below hs (hJ k w' h)) h0 hF hlen)
  have hbe : Below w0.heap.size w0 ((w.alloc (.cells #[.map (some mm)] 155)).alloc (.cells #[.func (.func F) #[] caps] 113)) := below_alloc (below_alloc hw _) _
  have c10 : ((w.alloc (.cells #[.map (some mm)] 155)).alloc (.cells #[.func (.func F) #[] caps] 113)).cell? ⟨B i, 10, none⟩ = some sv := (hb.below hbe).cell 10 rfl
  generalize e.lk.length = n at HC ⊢
  clear hb hs hJ h0 hF hlen hi hT hw hbe
  go_enter Tryz.func130, Tryz.ntmps130
  go_wp2_with fail
  refine HC.out.mono ?_
  rintro e w1 ⟨b, rfl, hy, hno⟩
  have HY := Lib.hid hy
  have HNO := Lib.hid hno
  clear hy hno c10 hmf
  cases b
  · have HK := Lib.hid (HNO.out rfl)
    clear HY HNO
    go_wp2
    go_ret
    exact ⟨false, rfl, (fun h => by cases h), fun _ => HK.out⟩
  · have HK := Lib.hid (HY.out rfl)
    clear HY HNO
    go_wp2
    go_ret
    exact ⟨true, rfl, fun _ => HK.out, (fun h => by cases h)⟩
/-- Behind the function's no: the boxes are as they were, and its interfaces are gone through. -/
def GoesOn (B : Nat → Nat) (F : Nat) (caps : Array Value) (mm b1 b2 d : Nat) (Y N : World → Prop) (w : World) : Prop :=
  w.cell? ⟨b1, 0, none⟩ = some (.map (some mm)) ∧ w.cell? ⟨b2, 0, none⟩ = some (.func (.func F) #[] caps) ∧
    Calls Tryz.prog 130 #[.pointer (some ⟨B d, 0, none⟩), .map (some mm), .func (.func F) #[] caps] w (YesNo Y N)
set_option maxHeartbeats 4000000 in
set_option maxRecDepth 100000 in
theorem ifs1_walk {A : Nat → Prop} {B : Nat → Nat} {T mb : Nat} {es : List Ent} {w0 : World} (hT : Tab A w0 T mb B es) (F : Nat) (caps : Array Value) (mm b1 b2 d : Nat) (M : List Nat) (Y N : World → Prop) (w : World) (he : ∀ args w, (callFunc F args).run Tryz.prog w = .ok (.enter F args) w)
    (hd : d < es.length) (hn : es.length ≤ 1048576) (hM : M.length < 9223372036854775807) (hw : Below w0.heap.size w0 w) (hm : Met w mm M) (hb2 : b2 ≠ mm)
    (c1 : w.cell? ⟨b1, 0, none⟩ = some (.map (some mm))) (c2 : w.cell? ⟨b2, 0, none⟩ = some (.func (.func F) #[] caps))
    (hyes : M.contains d = true → ∀ w', Below w.heap.size w w' → N w')
    (hno : M.contains d = false → ∀ w', Only (fun k => k = mm) w w' → Met w' mm (M ++ [d]) → Calls Tryz.prog F (#[entV B d] ++ caps) w' (YesNo Y (GoesOn B F caps mm b1 b2 d Y N))) :
    Calls Tryz.prog 201 #[.pointer (some ⟨B d, 0, none⟩), .pointer (some ⟨b1, 0, none⟩), .pointer (some ⟨b2, 0, none⟩)] w (YesNo Y N) := by
  obtain ⟨lv, fv, mv, sv, hb, hrest⟩ := hT.ent d es[d] (List.getElem?_eq_getElem hd)
  clear hrest
  have h0 : Below w.heap.size w w := Below.refl _ _
  have hdl : d ≤ 9223372036854775807 := by omega
  cases hc : M.contains d with
  | true =>
    have HS : Hid (∀ W, Below w.heap.size w W → W.cell? ⟨b1, 0, none⟩ = some (.map (some mm)) ∧ W.cell? ⟨B d, 0, none⟩ = some (.int .i64 d) ∧ (Instr.lookup 155 (.map (some mm)) (.int .i64 d) false).run Tryz.prog W = .ok (.int .i64 1) W) := Lib.hid (fun W hW => by
      have ho := Only.ofBelow (S := fun _ => False) hW
      refine ⟨ho.cell c1 id, (hb.below (hw.trans (hW.mono hw.size))).cell 0 rfl, ?_⟩
      have := (hm.keep ho id).look d hdl
      rw [hc] at this
      exact this)
    have HY := Lib.hid (hyes hc)
    clear hyes hno hT hd hn hM hw hm hb2 hc he hb c1 c2 hdl
    obtain ⟨g1, g2, g3⟩ := HS.out w h0
    go_enter Tryz.func201, Tryz.ntmps201
    go_upto_region 1 with fail
    first
    | (go_region_held (fun W => W.cell? ⟨b1, 0, none⟩ = some (.map (some mm)) ∧ W.cell? ⟨B d, 0, none⟩ = some (.int .i64 d) ∧ (Instr.lookup 155 (.map (some mm)) (.int .i64 d) false).run Tryz.prog W = .ok (.int .i64 1) W) ((refine HS.out _ ?_; (repeat (first | (with_reducible exact Below.refl _ _) | (with_reducible assumption) | (with_reducible refine below_drew ?_))))) (fail))
    | fail
    all_goals
      clear g1 g2 g3
      go_wp2
      go_ret
      exact ⟨false, rfl, (fun h => by cases h), fun _ => HY.out _ (by (repeat (first | (with_reducible exact Below.refl _ _) | (with_reducible refine below_drew ?_))))⟩
  | false =>
    have HS : Hid (∀ W, Below w.heap.size w W → W.cell? ⟨b1, 0, none⟩ = some (.map (some mm)) ∧ W.cell? ⟨B d, 0, none⟩ = some (.int .i64 d) ∧ (Instr.lookup 155 (.map (some mm)) (.int .i64 d) false).run Tryz.prog W = .ok (.int .i64 0) W) := Lib.hid (fun W hW => by
      have ho := Only.ofBelow (S := fun _ => False) hW
      refine ⟨ho.cell c1 id, (hb.below (hw.trans (hW.mono hw.size))).cell 0 rfl, ?_⟩
      have := (hm.keep ho id).look d hdl
      rw [hc] at this
      exact this)
    have HP : Hid (∀ W, Below w.heap.size w W → (Instr.mapUpdate 155 (.map (some mm)) (.int .i64 d) (.int .i64 1)).run Tryz.prog W = .ok () (putW Tryz.prog 155 (.map (some mm)) (.int .i64 d) (.int .i64 1) W)) := Lib.hid (fun W hW => ((hm.keep (Only.ofBelow (S := fun _ => False) hW) id).put d hdl hM).1)
    have HN : Hid (∀ W, Below w.heap.size w W → (putW Tryz.prog 155 (.map (some mm)) (.int .i64 d) (.int .i64 1) W).cell? ⟨b2, 0, none⟩ = some (.func (.func F) #[] caps) ∧ Calls Tryz.prog F (#[entV B d] ++ caps) (putW Tryz.prog 155 (.map (some mm)) (.int .i64 d) (.int .i64 1) W) (YesNo Y (GoesOn B F caps mm b1 b2 d Y N))) := Lib.hid (fun W hW => by
      have ho := Only.ofBelow (S := fun k => k = mm) hW
      obtain ⟨_, q2, q3, _⟩ := (hm.keep (Only.ofBelow (S := fun _ => False) hW) id).put d hdl hM
      exact ⟨q3.cell (ho.cell c2 hb2) hb2, hno hc _ (ho.trans q3) q2⟩)
    have HE := Lib.hid he
    clear hyes hno hT hd hn hM hw hm hb2 hc he hb c1 c2 hdl
    obtain ⟨g1, g2, g3⟩ := HS.out w h0
    go_enter Tryz.func201, Tryz.ntmps201
    go_upto_region 1 with fail
    first
    | (go_region_held (fun W => W.cell? ⟨b1, 0, none⟩ = some (.map (some mm)) ∧ W.cell? ⟨B d, 0, none⟩ = some (.int .i64 d) ∧ (Instr.lookup 155 (.map (some mm)) (.int .i64 d) false).run Tryz.prog W = .ok (.int .i64 0) W) ((refine HS.out _ ?_; (repeat (first | (with_reducible exact Below.refl _ _) | (with_reducible assumption) | (with_reducible refine below_drew ?_))))) (fail))
    | fail
    all_goals
      clear g1 g2 g3
      go_upto_region 3 with fail
      obtain ⟨g1, g2, g3⟩ := HS.out _ (below_drew (below_drew h0))
      have g4 := HP.out _ (below_drew (below_drew h0))
      have hw1 : IntKind.i64.wrap 1 = 1 := by decide
      go_region
      all_goals
        clear g1 g2 g3 g4 hw1
        have hq := HN.out _ (below_drew (below_drew h0))
        obtain ⟨d2, hcall⟩ := hq
        have HCALL := Lib.hid hcall
        have he := HE.out
        clear hcall HS HP HN
        generalize putW Tryz.prog 155 (.map (some mm)) (.int .i64 d) (.int .i64 1) w.drew.drew = w1 at d2 HCALL ⊢
        go_wp2_with fail
        refine HCALL.out.mono ?_
        rintro e1 w2 ⟨b, rfl, hy, hno⟩
        have HY := Lib.hid hy
        have HNO := Lib.hid hno
        clear he d2 hy hno HCALL
        cases b with
        | true =>
          have HK := Lib.hid (HY.out rfl)
          clear HY HNO
          go_wp2
          go_ret
          exact ⟨true, rfl, fun _ => HK.out, (fun h => by cases h)⟩
        | false =>
          obtain ⟨q1, q2, q3⟩ := HNO.out rfl
          have HQ := Lib.hid q3
          clear HY HNO q3
          go_wp2_with fail
          refine HQ.out.mono ?_
          rintro e1 w3 ⟨b, rfl, hy, hno⟩
          have HY := Lib.hid hy
          have HNO := Lib.hid hno
          clear q1 q2 hy hno HQ
          cases b
          · have HK := Lib.hid (HNO.out rfl)
            clear HY HNO
            go_wp2
            go_ret
            exact ⟨false, rfl, (fun h => by cases h), fun _ => HK.out⟩
          · have HK := Lib.hid (HY.out rfl)
            clear HY HNO
            go_wp2
            go_ret
            exact ⟨true, rfl, fun _ => HK.out, (fun h => by cases h)⟩
end Go.Proofs.YtpincofjopmaaaaGreatDoor
