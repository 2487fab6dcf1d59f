/-
  The contracts of an entry's interfaces and of above: the function is handed each class that it is below, each interface but once, till it says yes.
  Conditions: the table lies in memory that was there before; what the function holds lies below the memory that is made here.
  The contract of above.
  Conditions: the table lies in memory that was there before; what the function holds lies below the memory that is made here.
  The contracts of a table's declares, Kind and derived.
  Conditions: the table lies in memory that was there before.
-/
import Derived.Test.YtpincofjopmaaaaGreatDoorM20
import Derived.Test.YtpincofjopmaaaaGreatDoorM06
namespace Go.Proofs.YtpincofjopmaaaaGreatDoor
open Go.RowKit
/-- As 'Steps', and the function turns nothing from block lo on. -/
def StepsO (B : Nat → Nat) (F : Nat) (caps : Array Value) (lo : Nat) (L : List Nat) (J K : Nat → World → Prop) : Prop :=
  ∀ (k x : Nat) (w : World), L[k]? = some x → J k w → Calls Tryz.prog F (#[entV B x] ++ caps) w (fun e w' => YesNo (K k) (J (k + 1)) e w' ∧ Only (fun b => b < lo) w w')
/-- What J says stays while only blocks from lo on turn. -/
def StaysJ (lo : Nat) (J : Nat → World → Prop) : Prop := ∀ k w w', J k w → Only (fun b => lo ≤ b) w w' → J k w'
theorem YesNo.both {Y N X : World → Prop} {e : Ending} {w : World} (h : YesNo Y N e w) (hx : X w) : YesNo (fun w' => Y w' ∧ X w') (fun w' => N w' ∧ X w') e w := by
  obtain ⟨b, e1, h1, h2⟩ := h
  exact ⟨b, e1, fun q => ⟨h1 q, hx⟩, fun q => ⟨h2 q, hx⟩⟩
theorem vis_lt {es : List Ent} : ∀ (f : Nat) (M l : List Nat), Deep es f l → ∀ x ∈ vis es f M l, x < es.length
  | 0, M, l, _, x, hx => by simp [vis] at hx
  | f + 1, M, l, hd, x, hx => by
    rw [vis_succ] at hx
    unfold accV at hx
    rw [List.take_length] at hx
    have go : ∀ (r acc : List Nat), (∀ d ∈ r, ∃ e, es[d]? = some e ∧ Deep es f e.lk) → (∀ y ∈ acc, y < es.length) → ∀ y ∈ r.foldl (stepV es f M) acc, y < es.length := by
      intro r
      induction r with
      | nil => intro acc _ ha; exact ha
      | cons d r ih =>
        intro acc hr ha
        refine ih _ (fun q hq => hr q (List.mem_cons_of_mem _ hq)) ?_
        unfold stepV
        split
        · exact ha
        · obtain ⟨e, he, hde⟩ := hr d List.mem_cons_self
          intro y hy
          rcases List.mem_append.1 hy with h1 | h1
          · exact ha y h1
          · rcases List.mem_cons.1 h1 with h2 | h2
            · subst h2; exact (List.getElem?_eq_some_iff.1 he).1
            · rw [lkOf_eq he] at h2
              exact vis_lt f _ _ hde y h2
    exact go l [] hd (by simp) x hx
theorem nodup_pre {M a b : List Nat} (h : (M ++ b).Nodup) (hp : a <+: b) : (M ++ a).Nodup := by
  obtain ⟨r, rfl⟩ := hp
  rw [← List.append_assoc] at h
  exact (List.nodup_append.1 h).1
theorem ifs_any {A : Nat → Prop} {B : Nat → Nat} {T mb : Nat} {es : List Ent} {w0 : World} (hT : Tab A w0 T mb B es) (hn : es.length ≤ 1048576) (hlk : ∀ (i : Nat) (e : Ent), es[i]? = some e → e.lk.length ≤ 9223372036854775807) (F : Nat) (caps : Array Value)
    (he : ∀ args w, (callFunc F args).run Tryz.prog w = .ok (.enter F args) w) (lo mm : Nat) (hmm : lo ≤ mm) :
    ∀ (f : Nat) (i : Nat) (e : Ent) (M : List Nat) (J K : Nat → World → Prop) (w : World), es[i]? = some e → Deep es f e.lk → M.Nodup → (∀ x ∈ M, x < es.length) → (∀ k w', J k w' → Below w0.heap.size w0 w') → StaysJ lo J →
      StepsO B F caps lo (vis es f M e.lk) J K → J 0 w → Met w mm M →
      Calls Tryz.prog 130 #[.pointer (some ⟨B i, 0, none⟩), .map (some mm), .func (.func F) #[] caps] w
        (YesNo (fun w' => ∃ k, k < (vis es f M e.lk).length ∧ K k w') (fun w' => J (vis es f M e.lk).length w' ∧ Met w' mm (M ++ vis es f M e.lk) ∧ Only (fun b => b < lo ∨ b = mm) w w')) := by
  intro f
  induction f with
  | zero =>
    intro i e M J K w hi hd hM1 hM2 hJ hJs hF h0 hmet
    have hl : e.lk = [] := hd
    have hon : ∀ (a b : Obj), Only (fun k => k < lo ∨ k = mm) w ((w.alloc a).alloc b) := fun a b => ((Only.refl _ w).alloc a).alloc b
    have hon2 : ∀ (a b : Obj), Only (fun k => lo ≤ k) w ((w.alloc a).alloc b) := fun a b => ((Only.refl _ w).alloc a).alloc b
    have hon3 : ∀ (a b : Obj), Only (fun _ => False) w ((w.alloc a).alloc b) := fun a b => ((Only.refl _ w).alloc a).alloc b
    have h := ifs_walk hT F caps mm i e hi (fun _ w' => J 0 w' ∧ Met w' mm M ∧ Only (fun b => b < lo ∨ b = mm) w w') (fun k w' => K k w') w (hJ 0 w h0) (fun k w' h => hJ 0 w' h.1) ⟨hJs _ _ _ h0 (hon2 _ _), hmet.keep (hon3 _ _) id, hon _ _⟩
      (fun k x w' hx _ => by rw [hl] at hx; simp at hx) (hlk i e hi)
    rw [hl] at h
    rw [hl]
    refine h.mono fun e' w' q => q.mono (fun w'' q => ?_) (fun w'' q => ?_)
    · obtain ⟨k, hk, _⟩ := q
      simp at hk
    · exact ⟨q.1, by simpa [vis] using q.2.1, q.2.2⟩
  | succ f ih =>
    intro i e M J K w hi hd hM1 hM2 hJ hJs hF h0 hmet
    have hon : ∀ (a b : Obj), Only (fun k => k < lo ∨ k = mm) w ((w.alloc a).alloc b) := fun a b => ((Only.refl _ w).alloc a).alloc b
    have hon2 : ∀ (a b : Obj), Only (fun k => lo ≤ k) w ((w.alloc a).alloc b) := fun a b => ((Only.refl _ w).alloc a).alloc b
    have hon3 : ∀ (a b : Obj), Only (fun _ => False) w ((w.alloc a).alloc b) := fun a b => ((Only.refl _ w).alloc a).alloc b
    have hsz := hmet.lt
    have hws : lo ≤ w.heap.size := by omega
    have hin := vis_lt (f + 1) M e.lk hd
    have hfr : (M ++ vis es (f + 1) M e.lk).Nodup := vis_fresh es (f + 1) M e.lk hM1
    have h := ifs_walk hT F caps mm i e hi
      (fun k w' => J (accV es f M e.lk k).length w' ∧ Met w' mm (M ++ accV es f M e.lk k) ∧ Only (fun b => b < lo ∨ b = mm) w w' ∧ w'.cell? ⟨w.heap.size, 0, none⟩ = some (.map (some mm)) ∧ w'.cell? ⟨w.heap.size + 1, 0, none⟩ = some (.func (.func F) #[] caps))
      (fun _ w' => ∃ k, k < (vis es (f + 1) M e.lk).length ∧ K k w') w (hJ 0 w h0) (fun k w' h => hJ _ w' h.1)
      ⟨hJs _ _ _ h0 (hon2 _ _), by rw [accV_zero, List.append_nil]; exact hmet.keep (hon3 _ _) id, hon _ _, by simp, by simp⟩
      (fun k d w' hx ⟨hj, hm', ho, c1, c2⟩ => by
        obtain ⟨ed, hed, hdd⟩ := hd d (List.mem_of_getElem? hx)
        have hdl : d < es.length := (List.getElem?_eq_some_iff.1 hed).1
        have hpre := accV_pre es f M e.lk k
        have hacc : (M ++ accV es f M e.lk k).Nodup := nodup_pre hfr hpre
        have haccl : ∀ x ∈ M ++ accV es f M e.lk k, x < es.length := fun x hx => by
          rcases List.mem_append.1 hx with h1 | h1
          · exact hM2 x h1
          · exact hin x (hpre.subset h1)
        have hlen := nodup_len es.length _ hacc haccl
        refine ifs1_walk hT F caps mm w.heap.size (w.heap.size + 1) d (M ++ accV es f M e.lk k) _ _ w' he hdl hn (by omega) (hJ _ w' hj) hm' (by omega) c1 c2 (fun hc w'' hw'' => ?_) (fun hc w1 ho1 hm1 => ?_)
        · have ho2 := Only.ofBelow (S := fun _ => False) hw''
          show J (accV es f M e.lk (k + 1)).length w'' ∧ Met w'' mm (M ++ accV es f M e.lk (k + 1)) ∧ _
          rw [accV_same hx hc]
          exact ⟨hJs _ _ _ hj (Only.ofBelow hw''), hm'.keep ho2 id, ho.then (Only.ofBelow (S := fun _ => False) hw'') (fun _ _ h => h.elim), ho2.cell c1 id, ho2.cell c2 id⟩
        · obtain ⟨v1, v2, v3⟩ := vis_at hx hc
          have hj1 : J (accV es f M e.lk k).length w1 := hJs _ _ _ hj (ho1.mono (fun b _ h => by subst h; exact hmm))
          have hkl : (accV es f M e.lk k).length < (vis es (f + 1) M e.lk).length := (List.getElem?_eq_some_iff.1 v1).1
          have hp1 : accV es f M e.lk k ++ [d] <+: vis es (f + 1) M e.lk := by
            have := accV_pre es f M e.lk (k + 1)
            rw [v3] at this
            exact (show accV es f M e.lk k ++ [d] <+: accV es f M e.lk k ++ d :: _ from ⟨_, by rw [List.append_assoc]; rfl⟩).trans this
          rw [lkOf_eq hed] at v2 v3
          refine (hF _ d w1 v1 hj1).mono fun e1 w2 q => ?_
          obtain ⟨⟨b, e2, hy, hno⟩, ho2⟩ := q
          have ho12 : Only (fun b => b < lo ∨ b = mm) w' w2 := (ho1.mono (fun b _ h => Or.inr h)).trans (ho2.mono (fun b _ h => Or.inl h))
          have d1 := ho12.cell c1 (show ¬ (w.heap.size < lo ∨ w.heap.size = mm) by omega)
          have d2 := ho12.cell c2 (show ¬ (w.heap.size + 1 < lo ∨ w.heap.size + 1 = mm) by omega)
          refine ⟨b, e2, fun hb => ⟨_, hkl, hy hb⟩, fun hb => ⟨d1, d2, ?_⟩⟩
          refine (ih d ed (M ++ accV es f M e.lk k ++ [d]) (fun j => J ((accV es f M e.lk k).length + 1 + j)) (fun j => K ((accV es f M e.lk k).length + 1 + j)) w2 hed hdd (by rw [List.append_assoc]; exact nodup_pre hfr hp1)
            (fun x hx => by
              rw [List.append_assoc] at hx
              rcases List.mem_append.1 hx with h1 | h1
              · exact hM2 x h1
              · exact hin x (hp1.subset h1))
            (fun j w3 h3 => hJ _ w3 h3) (fun j w3 w4 h3 h4 => hJs _ w3 w4 h3 h4) (fun j x w3 hx3 hj3 => hF _ x w3 (v2 j x hx3) hj3) (hno hb) (hm1.keep ho2 (show ¬ mm < lo by omega))).mono fun e3 w3 q => ?_
          obtain ⟨b3, e3', hy3, hno3⟩ := q
          refine ⟨b3, e3', fun hb3 => ?_, fun hb3 => ?_⟩
          · obtain ⟨j, hj3, hk3⟩ := hy3 hb3
            exact ⟨_, (List.getElem?_eq_some_iff.1 (v2 j _ (List.getElem?_eq_getElem hj3))).1, hk3⟩
          · obtain ⟨r1, r2, r3⟩ := hno3 hb3
            show J (accV es f M e.lk (k + 1)).length w3 ∧ Met w3 mm (M ++ accV es f M e.lk (k + 1)) ∧ _
            rw [v3]
            refine ⟨?_, ?_, ho.trans (ho12.mono fun b _ h => h) |>.trans r3, r3.cell d1 (show ¬ (w.heap.size < lo ∨ w.heap.size = mm) by omega), r3.cell d2 (show ¬ (w.heap.size + 1 < lo ∨ w.heap.size + 1 = mm) by omega)⟩
            · rw [List.length_append, List.length_cons, show (accV es f M e.lk k).length + ((vis es f (M ++ accV es f M e.lk k ++ [d]) ed.lk).length + 1) = (accV es f M e.lk k).length + 1 + (vis es f (M ++ accV es f M e.lk k ++ [d]) ed.lk).length from by omega]
              exact r1
            · have : M ++ (accV es f M e.lk k ++ d :: vis es f (M ++ accV es f M e.lk k ++ [d]) ed.lk) = M ++ accV es f M e.lk k ++ [d] ++ vis es f (M ++ accV es f M e.lk k ++ [d]) ed.lk := by simp
              rw [this]
              exact r2)
      (hlk i e hi)
    refine h.mono fun e' w' q => q.mono (fun w'' q => q.choose_spec.2) (fun w'' q => ?_)
    rw [vis_succ]
    exact ⟨q.1, q.2.1, q.2.2.1⟩
end Go.Proofs.YtpincofjopmaaaaGreatDoor
namespace Go.Proofs.YtpincofjopmaaaaGreatDoor
open Go.RowKit
/-- What above passes: the line, then the interfaces of each of it, each but once. -/
def ifsL (es : List Ent) (f : Nat) (L : List Nat) : List Nat := L.foldl (fun acc d => acc ++ vis es f acc (lkOf es d)) []
def aboveL (es : List Ent) (f : Nat) (L : List Nat) : List Nat := L ++ ifsL es f L
def ifsK (es : List Ent) (f : Nat) (L : List Nat) (k : Nat) : List Nat := (L.take k).foldl (fun acc d => acc ++ vis es f acc (lkOf es d)) []
theorem ifsK_zero (es : List Ent) (f : Nat) (L : List Nat) : ifsK es f L 0 = [] := rfl
theorem ifsK_all (es : List Ent) (f : Nat) (L : List Nat) : ifsK es f L L.length = ifsL es f L := by unfold ifsK ifsL; rw [List.take_length]
theorem ifsK_succ {es : List Ent} {f : Nat} {L : List Nat} {k d : Nat} (h : L[k]? = some d) : ifsK es f L (k + 1) = ifsK es f L k ++ vis es f (ifsK es f L k) (lkOf es d) := by
  unfold ifsK
  rw [List.take_add_one, h, List.foldl_append]
  rfl
theorem ifs_fold_pre (es : List Ent) (f : Nat) : ∀ (l acc : List Nat), acc <+: l.foldl (fun acc d => acc ++ vis es f acc (lkOf es d)) acc
  | [], _ => List.prefix_rfl
  | _ :: l, _ => (List.prefix_append _ _).trans (ifs_fold_pre es f l _)
theorem ifsK_pre (es : List Ent) (f : Nat) (L : List Nat) (k : Nat) : ifsK es f L k <+: ifsL es f L := by
  unfold ifsK ifsL
  conv => rhs; rw [← List.take_append_drop k L, List.foldl_append]
  exact ifs_fold_pre es f _ _
theorem ifsL_good {es : List Ent} {f : Nat} {L : List Nat} (hL : ∀ d ∈ L, ∃ e, es[d]? = some e ∧ Deep es f e.lk) : (ifsL es f L).Nodup ∧ ∀ x ∈ ifsL es f L, x < es.length := by
  have go : ∀ (r acc : List Nat), (∀ d ∈ r, ∃ e, es[d]? = some e ∧ Deep es f e.lk) → acc.Nodup → (∀ x ∈ acc, x < es.length) →
      (r.foldl (fun acc d => acc ++ vis es f acc (lkOf es d)) acc).Nodup ∧ ∀ x ∈ r.foldl (fun acc d => acc ++ vis es f acc (lkOf es d)) acc, x < es.length := by
    intro r
    induction r with
    | nil => intro acc _ h1 h2; exact ⟨h1, h2⟩
    | cons d r ih =>
      intro acc hr h1 h2
      obtain ⟨e, he, hd⟩ := hr d List.mem_cons_self
      refine ih _ (fun q hq => hr q (List.mem_cons_of_mem _ hq)) (vis_fresh es f acc _ h1) (fun x hx => ?_)
      rcases List.mem_append.1 hx with h3 | h3
      · exact h2 x h3
      · rw [lkOf_eq he] at h3
        exact vis_lt f _ _ hd x h3
  exact go L [] hL List.nodup_nil (by simp)
set_option maxHeartbeats 2000000 in
set_option maxRecDepth 100000 in
theorem abv1_walk {B : Nat → Nat} (F : Nat) (caps : Array Value) (mm b1 b2 d : Nat) (Y N : World → Prop) (w : World)
    (c1 : w.cell? ⟨b1, 0, none⟩ = some (.map (some mm))) (c2 : w.cell? ⟨b2, 0, none⟩ = some (.func (.func F) #[] caps))
    (h : Calls Tryz.prog 130 #[.pointer (some ⟨B d, 0, none⟩), .map (some mm), .func (.func F) #[] caps] w (YesNo Y N)) :
    Calls Tryz.prog 129 #[.pointer (some ⟨B d, 0, none⟩), .pointer (some ⟨b1, 0, none⟩), .pointer (some ⟨b2, 0, none⟩)] w (YesNo Y N) := by
  have H := Lib.hid h
  clear h
  go_enter Tryz.func129, Tryz.ntmps129
  go_wp2_with fail
  refine H.out.mono ?_
  rintro e1 w3 ⟨b, rfl, hy, hno⟩
  have HY := Lib.hid hy
  have HNO := Lib.hid hno
  clear c1 c2 hy hno H
  cases b
  · have HK := Lib.hid (HNO.out rfl)
    clear HY HNO
    go_wp2
    go_ret
    exact ⟨false, rfl, (fun h => by cases h), fun _ => HK.out⟩
  · have HK := Lib.hid (HY.out rfl)
    clear HY HNO
    go_wp2
    go_ret
    exact ⟨true, rfl, fun _ => HK.out, (fun h => by cases h)⟩
/-- The world in which above makes its calls. -/
noncomputable def abvW (F : Nat) (caps : Array Value) (w : World) : World := ((w.alloc (.cells #[.func (.func F) #[] caps] 113)).alloc (.map #[] 0)).alloc (.cells #[.map (some (w.heap.size + 1))] 155)
set_option maxHeartbeats 2000000 in
set_option maxRecDepth 100000 in
theorem above_walk (F : Nat) (caps : Array Value) (pv : Value) (Y N : World → Prop) (w : World)
    (h : Calls Tryz.prog 85 #[pv, .func (.func F) #[] caps] (abvW F caps w) (YesNo Y (fun w1 =>
      Calls Tryz.prog 85 #[pv, .func (.func 129) #[] #[.pointer (some ⟨w.heap.size + 1 + 1, 0, none⟩), .pointer (some ⟨w.heap.size, 0, none⟩)]] w1 (YesNo Y N)))) :
    Calls Tryz.prog 77 #[pv, .func (.func F) #[] caps] w (YesNo Y N) := by
  have hmf : ∀ (fn : Fn) (first cap : Array Value) (w : World), (Instr.makeFunc fn first cap).run Tryz.prog w = .ok (.func fn first cap) w := fun _ _ _ _ => rfl
  have hmm := @run_makeMap Tryz.prog
  unfold abvW at h
  have H := Lib.hid h
  clear h
  go_enter Tryz.func77, Tryz.ntmps77
  go_upto_region 2 with fail
  clear hmm
  go_wp2_with fail
  refine H.out.mono ?_
  rintro e1 w3 ⟨b, rfl, hy, hno⟩
  have HY := Lib.hid hy
  have HNO := Lib.hid hno
  clear hy hno H
  cases b
  · have HK := Lib.hid (HNO.out rfl)
    clear HY HNO
    go_wp2_with fail
    refine HK.out.mono ?_
    rintro e1 w4 ⟨b, rfl, hy, hno⟩
    have HY := Lib.hid hy
    have HNO := Lib.hid hno
    clear hy hno HK
    cases b
    · have HK := Lib.hid (HNO.out rfl)
      clear HY HNO
      go_wp2
      go_ret
      exact ⟨false, rfl, (fun h => by cases h), fun _ => HK.out⟩
    · have HK := Lib.hid (HY.out rfl)
      clear HY HNO
      go_wp2
      go_ret
      exact ⟨true, rfl, fun _ => HK.out, (fun h => by cases h)⟩
  · have HK := Lib.hid (HY.out rfl)
    clear HY HNO
    go_wp2
    go_ret
    exact ⟨true, rfl, fun _ => HK.out, (fun h => by cases h)⟩
theorem above_any {A : Nat → Prop} {B : Nat → Nat} {T mb : Nat} {es : List Ent} {w0 : World} (hT : Tab A w0 T mb B es) (hn : es.length ≤ 1048576) (hlk : ∀ (i : Nat) (e : Ent), es[i]? = some e → e.lk.length ≤ 9223372036854775807) (F : Nat) (caps : Array Value)
    (he : ∀ args w, (callFunc F args).run Tryz.prog w = .ok (.enter F args) w) (lo f : Nat) (o : Option Nat) (L : List Nat) (hc : Chain es L o) (hL : ∀ d ∈ L, ∃ e, es[d]? = some e ∧ Deep es f e.lk) (J K : Nat → World → Prop) (w : World) (hlo : lo ≤ w.heap.size)
    (hJ : ∀ k w', J k w' → Below w0.heap.size w0 w') (hJs : StaysJ lo J) (hF : StepsO B F caps lo (aboveL es f L) J K) (h0 : J 0 w) :
    Calls Tryz.prog 77 #[ptrV B o, .func (.func F) #[] caps] w (YesNo (fun w' => ∃ k, k < (aboveL es f L).length ∧ K k w') (J (aboveL es f L).length)) := by
  have hlen : (aboveL es f L).length = L.length + (ifsL es f L).length := by unfold aboveL; rw [List.length_append]
  have hW : Only (fun b => lo ≤ b) w (abvW F caps w) := (((Only.refl _ w).alloc _).alloc _).alloc _
  have c1 : (abvW F caps w).cell? ⟨w.heap.size + 1 + 1, 0, none⟩ = some (.map (some (w.heap.size + 1))) := by
    have q := (Box.new ((w.alloc (.cells #[.func (.func F) #[] caps] 113)).alloc (.map #[] 0)) #[.map (some (w.heap.size + 1))] 155).cell 0 rfl
    have e : ((w.alloc (.cells #[.func (.func F) #[] caps] 113)).alloc (.map #[] 0)).heap.size = w.heap.size + 1 + 1 := by simp
    rw [e] at q
    exact q
  have c2 : (abvW F caps w).cell? ⟨w.heap.size, 0, none⟩ = some (.func (.func F) #[] caps) :=
    ((Box.new w #[.func (.func F) #[] caps] 113).below (below_alloc (below_alloc (Below.refl _ _) _) _)).cell 0 rfl
  have hm : Met (abvW F caps w) (w.heap.size + 1) [] := by
    have h1 := Met.new (w.alloc (.cells #[.func (.func F) #[] caps] 113))
    have h2 : (w.alloc (.cells #[.func (.func F) #[] caps] 113)).heap.size = w.heap.size + 1 := by simp
    rw [h2] at h1
    exact h1.keep ((Only.refl (fun _ => False) _).alloc _) id
  obtain ⟨hg1, hg2⟩ := ifsL_good hL
  refine above_walk F caps _ _ _ w ?_
  have l1 := line_any hT F caps L o (fun k w' => J k w' ∧ Only (fun b => b < lo) (abvW F caps w) w') (fun k w' => K k w') (abvW F caps w) he hc (fun k w' h => hJ k w' h.1) ⟨hJs 0 _ _ h0 hW, Only.refl _ _⟩
    (fun k x w' hx hj => (hF k x w' (by unfold aboveL; rw [List.getElem?_append_left (List.getElem?_eq_some_iff.1 hx).1]; exact hx) hj.1).mono fun e w'' q => q.1.mono' (fun h => h) (fun h => ⟨h, hj.2.trans q.2⟩))
  refine l1.mono fun e w' q => q.mono (fun w1 ⟨k, hk, hK⟩ => ⟨k, by omega, hK⟩) (fun w1 ⟨hj1, ho1⟩ => ?_)
  have d1 := ho1.cell c1 (show ¬ w.heap.size + 1 + 1 < lo by omega)
  have d2 := ho1.cell c2 (show ¬ w.heap.size < lo by omega)
  have hm1 := hm.keep ho1 (show ¬ w.heap.size + 1 < lo by omega)
  have l2 := line_any hT 129 #[.pointer (some ⟨w.heap.size + 1 + 1, 0, none⟩), .pointer (some ⟨w.heap.size, 0, none⟩)] L o
    (fun k w' => J (L.length + (ifsK es f L k).length) w' ∧ Met w' (w.heap.size + 1) (ifsK es f L k) ∧ w'.cell? ⟨w.heap.size + 1 + 1, 0, none⟩ = some (.map (some (w.heap.size + 1))) ∧ w'.cell? ⟨w.heap.size, 0, none⟩ = some (.func (.func F) #[] caps))
    (fun _ w' => ∃ k, k < (aboveL es f L).length ∧ K k w') w1 (enters_fn Tryz.func129 (by kernel_rfl) rfl) hc (fun k w' h => hJ _ w' h.1) ⟨hj1, hm1, d1, d2⟩
    (fun k d w' hx ⟨hj, hmk, q1, q2⟩ => by
      obtain ⟨ed, hed, hdd⟩ := hL d (List.mem_of_getElem? hx)
      have hpre := ifsK_pre es f L k
      have hnx := ifsK_succ (es := es) (f := f) hx
      rw [lkOf_eq hed] at hnx
      have hpn := ifsK_pre es f L (k + 1)
      rw [hnx] at hpn
      have hget : ∀ (j x : Nat), (vis es f (ifsK es f L k) ed.lk)[j]? = some x → (aboveL es f L)[L.length + (ifsK es f L k).length + j]? = some x := fun j x hj => by
        unfold aboveL
        rw [List.getElem?_append_right (by omega)]
        refine pre_get hpn ?_
        rw [List.getElem?_append_right (by omega), show L.length + (ifsK es f L k).length + j - L.length - (ifsK es f L k).length = j from by omega]
        exact hj
      refine abv1_walk F caps (w.heap.size + 1) (w.heap.size + 1 + 1) w.heap.size d _ _ w' q1 q2 ?_
      refine (ifs_any hT hn hlk F caps he lo (w.heap.size + 1) (by omega) f d ed (ifsK es f L k) (fun j => J (L.length + (ifsK es f L k).length + j)) (fun j => K (L.length + (ifsK es f L k).length + j)) w' hed hdd
        (by obtain ⟨r, hr⟩ := hpre; rw [← hr] at hg1; exact (List.nodup_append.1 hg1).1) (fun x hx => hg2 x (hpre.subset hx)) (fun j w3 h3 => hJ _ w3 h3) (fun j w3 w4 h3 h4 => hJs _ w3 w4 h3 h4)
        (fun j x w3 hx3 hj3 => hF _ x w3 (hget j x hx3) hj3) hj hmk).mono fun e3 w4 q => q.mono' (fun ⟨j, hj4, hk4⟩ => ⟨_, (List.getElem?_eq_some_iff.1 (hget j _ (List.getElem?_eq_getElem hj4))).1, hk4⟩) (fun ⟨r1, r2, r3⟩ => ?_)
      show J (L.length + (ifsK es f L (k + 1)).length) w4 ∧ Met w4 (w.heap.size + 1) (ifsK es f L (k + 1)) ∧ _
      rw [hnx]
      refine ⟨?_, r2, ?_, ?_⟩
      · rw [List.length_append, ← Nat.add_assoc]
        exact r1
      · exact r3.cell q1 (show ¬ (w.heap.size + 1 + 1 < lo ∨ w.heap.size + 1 + 1 = w.heap.size + 1) by omega)
      · exact r3.cell q2 (show ¬ (w.heap.size < lo ∨ w.heap.size = w.heap.size + 1) by omega))
  refine l2.mono fun e2 w2 q => q.mono (fun w3 ⟨_, _, h⟩ => h) (fun w3 h => ?_)
  have := h.1
  rw [ifsK_all] at this
  rw [hlen]
  exact this
end Go.Proofs.YtpincofjopmaaaaGreatDoor
namespace Go.Proofs.YtpincofjopmaaaaGreatDoor
open Go.RowKit
/-- A kind without its arrays; what is no kind as it is. -/
def topL (l : List UInt8) : List UInt8 := if rightB l then baseL l else l
theorem topL_zero {l : List UInt8} (h : depN l = 0) : topL l = l := by
  unfold topL
  split
  · rename_i hr
    rw [depN_right hr] at h
    unfold baseL
    rw [h, Nat.mul_zero, Nat.sub_zero, List.take_length]
  · rfl
theorem topL_elem {l : List UInt8} (h : 0 < depN l) : topL (elemL l) = topL l ∧ depN (elemL l) < depN l ∧ (elemL l).length ≤ l.length := by
  have hr : rightB l = true := by
    cases hr : rightB l with
    | true => rfl
    | false => rw [depN_not hr] at h; cases h
  rw [depN_right hr] at h ⊢
  obtain ⟨r1, r2, _⟩ := elem_right hr h
  have hle := deepN_le l
  have he : elemL l = l.take (l.length - 2) := by unfold elemL; rw [if_pos ⟨hr, h⟩]
  refine ⟨?_, by rw [depN_right r1]; omega, by rw [he, List.length_take]; omega⟩
  unfold topL
  rw [if_pos r1, if_pos hr]
  unfold baseL
  rw [r2, he, List.take_take, List.length_take]
  congr 1
  omega
def declE (es : List Ent) (l : List UInt8) : Bool := plainB (topL l) || (placeE es (topL l)).isSome
def SaidV (v : Value) (w : World) (e : Ending) (w' : World) : Prop := e = .returned v ∧ Below w.heap.size w w'
set_option maxHeartbeats 2000000 in
set_option maxRecDepth 100000 in
theorem decl_any {A : Nat → Prop} {B : Nat → Nat} {T mb : Nat} {es : List Ent} {w0 : World} (hT : Tab A w0 T mb B es) (l : List UInt8) (w : World) (hw : Below w0.heap.size w0 w) (hl : l.length ≤ 9223372036854775807) :
    Calls Tryz.prog 80 #[.pointer (some ⟨T, 0, none⟩), .string (S l)] w (Said (declE es l) w) := by
  have HW := Lib.hid hw
  have HL := Lib.hid hl
  have HT := Lib.hid hT
  obtain ⟨R, hR⟩ : ∃ R, R = declE es l := ⟨_, rfl⟩
  rw [← hR]
  have HR := Lib.hid hR
  clear hw hl hT hR
  go_enter Tryz.func80, Tryz.ntmps80
  go_wp2
  go_loopg [1] (depN l + 1) (fun gk v1 wr => ∃ m : List UInt8, v1 = .string (S m) ∧ topL m = topL l ∧ m.length ≤ l.length ∧ depN m < gk ∧ Below w.heap.size w wr)
  case atStart => exact ⟨l, rfl, rfl, Nat.le_refl _, Nat.lt_succ_self _, Below.refl _ _⟩
  case round =>
    obtain ⟨m, rfl, htop, hml, hgk, hbw⟩ := hrel
    have HTOP := Lib.hid htop
    have HB := Lib.hid hbw
    have HGK := Lib.hid hgk
    have HML := Lib.hid hml
    have HM : m.length ≤ 9223372036854775807 := by have := HL.out; omega
    have HD := Lib.hid (deep_any m wr HM)
    unfold SaidN at HD
    clear htop hbw hgk hml
    by_cases h0 : depN m = 0
    · have hm : topL m = m := topL_zero h0
      rw [h0] at HD
      have HRM : Hid (R = (plainB m || (placeE es m).isSome)) := Lib.hid (by rw [HR.out]; unfold declE; rw [← HTOP.out, hm])
      clear h0 hm
      go_wp2_with fail
      refine HD.out.mono ?_
      rintro e w1 ⟨rfl, hb1⟩
      have HB1 := Lib.hid (HB.out.trans (hb1.mono HB.out.size))
      clear hb1 HD
      have HP := Lib.hid (plain_any m w1)
      go_wp2_with fail
      refine HP.out.mono ?_
      rintro e w2 ⟨rfl, rfl⟩
      clear HP
      generalize plainB m = p at HRM
      cases p with
      | true =>
        obtain rfl : R = true := by rw [HRM.out]; rfl
        go_wp2
        go_ret
        exact ⟨rfl, HB1.out⟩
      | false =>
        have hw0 : Below w0.heap.size w0 w1 := HW.out.trans (HB1.out.mono HW.out.size)
        have hTw := HT.out.below hw0
        have t0 := hTw.box.cell 0 rfl
        have hlk := hTw.look m HM
        clear hw0 hTw
        cases ho : placeE es m with
        | none =>
          rw [ho] at HRM hlk
          obtain rfl : R = false := by rw [HRM.out]; rfl
          rw [ptrV_none] at hlk
          clear ho
          go_wp2
          go_ret
          exact ⟨rfl, HB1.out⟩
        | some j =>
          rw [ho] at HRM hlk
          obtain rfl : R = true := by rw [HRM.out]; rfl
          rw [ptrV_some] at hlk
          clear ho
          go_wp2
          go_ret
          exact ⟨rfl, HB1.out⟩
    · have hp : 0 < depN m := by omega
      obtain ⟨e1, e2, e3⟩ := topL_elem hp
      have hpd : (0 : Int) < (depN m : Int) := by omega
      have HE := Lib.hid (fun w => elem_any m w HM)
      unfold SaidS at HE
      have HT1 := Lib.hid (e1.trans HTOP.out)
      have HT2 := Lib.hid e2
      have HT3 := Lib.hid (Nat.le_trans e3 HML.out)
      clear hp e1 e2 e3 h0
      generalize elemL m = m2 at HE HT1 HT2 HT3
      go_wp2_with fail
      refine HD.out.mono ?_
      rintro e w1 ⟨rfl, hb1⟩
      have HB1 := Lib.hid (HB.out.trans (hb1.mono HB.out.size))
      clear hb1 HD
      go_wp2_with fail
      refine (HE.out w1).mono ?_
      rintro e w2 ⟨rfl, hb2⟩
      have HB2 := Lib.hid (HB1.out.trans (hb2.mono HB1.out.size))
      clear hb2 HE
      go_wp2
      go_roundg (depN m)
      case measure => exact HGK.out
      case rel => exact ⟨m2, rfl, HT1.out, HT3.out, HT2.out, HB2.out⟩
def nullL : List UInt8 := [110, 117, 108, 108]
def kindE (es : List Ent) (l : List UInt8) : Bool := l == nullL || declE es l
set_option maxHeartbeats 2000000 in
set_option maxRecDepth 100000 in
theorem kindt_any {A : Nat → Prop} {B : Nat → Nat} {T mb : Nat} {es : List Ent} {w0 : World} (hT : Tab A w0 T mb B es) (l : List UInt8) (w : World) (hw : Below w0.heap.size w0 w) (hl : l.length ≤ 9223372036854775807) :
    Calls Tryz.prog 32 #[.pointer (some ⟨T, 0, none⟩), .string (S l)] w (Said (kindE es l) w) := by
  have HD := Lib.hid (decl_any hT l w hw hl)
  have hk : kindE es l = (l == nullL || declE es l) := rfl
  rw [hk]
  clear hk hw hl hT
  have e0 := S_toList l
  unfold nullL
  generalize declE es l = d at HD ⊢
  cases hn : (l == [110, 117, 108, 108])
  · go_enter Tryz.func32, Tryz.ntmps32
    go_wp2_with fail
    refine HD.out.mono ?_
    rintro e w1 ⟨rfl, hb⟩
    clear HD
    go_wp2
    go_ret
    exact ⟨rfl, hb⟩
  · clear HD
    go_enter Tryz.func32, Tryz.ntmps32
    go_wp2
    go_ret
    exact ⟨rfl, Below.refl _ _⟩
/-- The place of a class, or of what an array kind is derived from. -/
def derE (es : List Ent) (l : List UInt8) : Option Nat := if 0 < depN l ∧ declE es l = true then placeE es objL else placeE es l
set_option maxHeartbeats 2000000 in
set_option maxRecDepth 100000 in
theorem derived_any {A : Nat → Prop} {B : Nat → Nat} {T mb : Nat} {es : List Ent} {w0 : World} (hT : Tab A w0 T mb B es) (l : List UInt8) (w : World) (hw : Below w0.heap.size w0 w) (hl : l.length ≤ 9223372036854775807) :
    Calls Tryz.prog 84 #[.pointer (some ⟨T, 0, none⟩), .string (S l)] w (SaidV (ptrV B (derE es l)) w) := by
  have HD := Lib.hid (fun w' (hw' : Below w0.heap.size w0 w') => decl_any hT l w' hw' hl)
  have HP := Lib.hid (deep_any l w hl)
  unfold SaidN at HP
  have HL : Hid (∀ w', Below w0.heap.size w0 w' → w'.cell? ⟨T, 0, none⟩ = some (.map (some mb)) ∧ (Instr.lookup 84 (.map (some mb)) (.string (S l)) false).run Tryz.prog w' = .ok (ptrV B (placeE es l)) w' ∧
      (Instr.lookup 84 (.map (some mb)) (.string ⟨#[79, 98, 106, 101, 99, 116]⟩) false).run Tryz.prog w' = .ok (ptrV B (placeE es objL)) w') := Lib.hid (fun w' hw' =>
    ⟨(hT.below hw').box.cell 0 rfl, (hT.below hw').look l hl, (hT.below hw').look objL (by decide)⟩)
  have HW := Lib.hid hw
  obtain ⟨v, hv⟩ : ∃ v, v = ptrV B (derE es l) := ⟨_, rfl⟩
  rw [← hv]
  have HV := Lib.hid hv
  clear hw hl hT hv
  by_cases h0 : 0 < depN l
  · have hpd : (0 : Int) < (depN l : Int) := by omega
    cases hd : declE es l
    · have hE : derE es l = placeE es l := by unfold derE; rw [if_neg (by rw [hd]; simp)]
      rw [hE] at HV
      have HDC := Lib.hid hd
      clear h0 hE hd
      go_enter Tryz.func84, Tryz.ntmps84
      go_wp2_with fail
      refine HP.out.mono ?_
      rintro e w1 ⟨rfl, hb1⟩
      have HB1 := Lib.hid hb1
      clear hb1 HP
      go_wp2_with fail
      refine (HD.out w1 (HW.out.trans (HB1.out.mono HW.out.size))).mono ?_
      rintro e w2 ⟨rfl, hb2⟩
      have HB2 := Lib.hid (HB1.out.trans (hb2.mono HB1.out.size))
      clear hb2 HD
      rw [HDC.out]
      obtain ⟨t0, t1, _⟩ := HL.out w2 (HW.out.trans (HB2.out.mono HW.out.size))
      rw [← HV.out] at t1
      clear HL
      go_wp2
      go_ret
      exact ⟨rfl, HB2.out⟩
    · have hE : derE es l = placeE es objL := by unfold derE; rw [if_pos ⟨h0, hd⟩]
      rw [hE] at HV
      have HDC := Lib.hid hd
      clear h0 hE hd
      go_enter Tryz.func84, Tryz.ntmps84
      go_wp2_with fail
      refine HP.out.mono ?_
      rintro e w1 ⟨rfl, hb1⟩
      have HB1 := Lib.hid hb1
      clear hb1 HP
      go_wp2_with fail
      refine (HD.out w1 (HW.out.trans (HB1.out.mono HW.out.size))).mono ?_
      rintro e w2 ⟨rfl, hb2⟩
      have HB2 := Lib.hid (HB1.out.trans (hb2.mono HB1.out.size))
      clear hb2 HD
      rw [HDC.out]
      obtain ⟨t0, _, t1⟩ := HL.out w2 (HW.out.trans (HB2.out.mono HW.out.size))
      rw [← HV.out] at t1
      clear HL
      go_wp2
      go_ret
      exact ⟨rfl, HB2.out⟩
  · have hE : derE es l = placeE es l := by unfold derE; rw [if_neg (fun h => h0 h.1)]
    rw [hE] at HV
    have hz : depN l = 0 := by omega
    rw [hz] at HP
    clear h0 hE hz HD
    go_enter Tryz.func84, Tryz.ntmps84
    go_wp2_with fail
    refine HP.out.mono ?_
    rintro e w1 ⟨rfl, hb1⟩
    have HB1 := Lib.hid hb1
    clear hb1 HP
    obtain ⟨t0, t1, _⟩ := HL.out w1 (HW.out.trans (HB1.out.mono HW.out.size))
    rw [← HV.out] at t1
    clear HL
    go_wp2
    go_ret
    exact ⟨rfl, HB1.out⟩
end Go.Proofs.YtpincofjopmaaaaGreatDoor
