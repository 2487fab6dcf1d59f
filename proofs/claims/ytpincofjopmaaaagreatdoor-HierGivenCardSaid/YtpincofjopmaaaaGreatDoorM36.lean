/-
  The table that New makes, as plain lists.
  Conditions: as each text of it says.
-/
import Derived.Test.YtpincofjopmaaaaGreatDoorM35
import Derived.Test.YtpincofjopmaaaaGreatDoorM29
import Derived.Test.YtpincofjopmaaaaGreatDoorM21
import Derived.Test.YtpincofjopmaaaaGreatDoorM22
import Derived.Test.YtpincofjopmaaaaGreatDoorM33
import Derived.Test.YtpincofjopmaaaaGreatDoorM25
set_option maxHeartbeats 8000000
set_option maxRecDepth 100000
namespace Go.Proofs.YtpincofjopmaaaaGreatDoor
open Go.RowKit
def rawE (c : Cls) : Ent := ⟨c, none, []⟩
def enteredE (cs : List Cls) (k : Nat) : List Ent := startL ++ (cs.take k).map rawE
def allE0 (cs : List Cls) : List Ent := startL ++ cs.map rawE
def linkOne (cs : List Cls) (c : Cls) : Ent := ⟨c, upE (allE0 cs) c.sup, likesE (allE0 cs) c.like⟩
def linkedE (cs : List Cls) (k : Nat) : List Ent := startL ++ ((cs.take k).map (linkOne cs) ++ (cs.drop k).map rawE)
def newT (cs : List Cls) : List Ent := startL ++ cs.map (linkOne cs)
theorem enteredE_zero (cs : List Cls) : enteredE cs 0 = startL := by simp [enteredE]
theorem enteredE_all (cs : List Cls) : enteredE cs cs.length = allE0 cs := by unfold enteredE allE0; rw [List.take_length]
theorem linkedE_zero (cs : List Cls) : linkedE cs 0 = allE0 cs := by simp [linkedE, allE0]
theorem linkedE_all (cs : List Cls) : linkedE cs cs.length = newT cs := by unfold linkedE newT; rw [List.take_length, List.drop_length]; simp
theorem enteredE_len (cs : List Cls) {k : Nat} (h : k ≤ cs.length) : (enteredE cs k).length = 8 + k := by unfold enteredE; rw [List.length_append, startL_len, List.length_map, List.length_take, Nat.min_eq_left h]
theorem newT_len (cs : List Cls) : (newT cs).length = 8 + cs.length := by unfold newT; rw [List.length_append, startL_len, List.length_map]
theorem linkedE_len (cs : List Cls) {k : Nat} (h : k ≤ cs.length) : (linkedE cs k).length = 8 + cs.length := by
  unfold linkedE
  rw [List.length_append, startL_len, List.length_append, List.length_map, List.length_map, List.length_take, List.length_drop, Nat.min_eq_left h]
  omega
theorem enteredE_succ {cs : List Cls} {k : Nat} {c : Cls} (h : cs[k]? = some c) : enteredE cs (k + 1) = enteredE cs k ++ [rawE c] := by
  unfold enteredE
  rw [List.take_add_one, h, List.map_append, List.append_assoc]
  rfl
theorem linkedE_get {cs : List Cls} {k : Nat} {c : Cls} (h : cs[k]? = some c) : (linkedE cs k)[8 + k]? = some (rawE c) := by
  have hk := (List.getElem?_eq_some_iff.1 h).1
  unfold linkedE
  have h1 : ((cs.take k).map (linkOne cs)).length = k := by rw [List.length_map, List.length_take, Nat.min_eq_left (Nat.le_of_lt hk)]
  rw [List.getElem?_append_right (by rw [startL_len]; omega), startL_len, List.getElem?_append_right (by rw [h1]; omega), h1, show 8 + k - 8 - k = 0 by omega, List.getElem?_map, List.getElem?_drop, Nat.add_zero, h]
  rfl
theorem linkedE_succ {cs : List Cls} {k : Nat} {c : Cls} (h : cs[k]? = some c) : (linkedE cs k).set (8 + k) (linkOne cs c) = linkedE cs (k + 1) := by
  have hk := (List.getElem?_eq_some_iff.1 h).1
  have h1 : ((cs.take k).map (linkOne cs)).length = k := by rw [List.length_map, List.length_take, Nat.min_eq_left (Nat.le_of_lt hk)]
  unfold linkedE
  rw [List.set_append_right _ _ (by rw [startL_len]; omega), startL_len, List.set_append_right _ _ (by rw [h1]; omega), h1, show 8 + k - 8 - k = 0 by omega]
  have h2 : cs.drop k = c :: cs.drop (k + 1) := by
    rw [List.drop_eq_getElem_cons hk]
    rw [(List.getElem?_eq_some_iff.1 h).2]
  rw [h2, List.map_cons, List.set_cons_zero, List.take_add_one, h, List.map_append]
  simp
theorem placeE_cls {es es' : List Ent} (h : es.map Ent.cls = es'.map Ent.cls) (n : List UInt8) : placeE es n = placeE es' n := by
  have e : ∀ es : List Ent, placeE es n = (es.map Ent.cls).findIdx? (fun c => c.name == n) := fun es => by unfold placeE; rw [List.findIdx?_map]; rfl
  rw [e, e, h]
theorem get_cls {es es' : List Ent} (h : es.map Ent.cls = es'.map Ent.cls) (i : Nat) : (es[i]?).map Ent.cls = (es'[i]?).map Ent.cls := by
  rw [← List.getElem?_map, ← List.getElem?_map, h]
theorem itfAt_cls {es es' : List Ent} (h : es.map Ent.cls = es'.map Ent.cls) (i : Nat) : itfAt es i = itfAt es' i := by
  have h1 := get_cls h i
  unfold itfAt
  cases h2 : es[i]? <;> cases h3 : es'[i]? <;> rw [h2, h3] at h1 <;> simp at h1
  all_goals first | rfl | (dsimp only; rw [h1])
theorem finAt_cls {es es' : List Ent} (h : es.map Ent.cls = es'.map Ent.cls) (i : Nat) : finAt es i = finAt es' i := by
  have h1 := get_cls h i
  unfold finAt
  cases h2 : es[i]? <;> cases h3 : es'[i]? <;> rw [h2, h3] at h1 <;> simp at h1
  all_goals first | rfl | (dsimp only; rw [h1])
theorem upE_cls {es es' : List Ent} (h : es.map Ent.cls = es'.map Ent.cls) (n : List UInt8) : upE es n = upE es' n := by
  unfold upE
  rw [placeE_cls h]
  cases placeE es' n with
  | none => rfl
  | some j => dsimp only; rw [itfAt_cls h, finAt_cls h]
theorem likeE_cls {es es' : List Ent} (h : es.map Ent.cls = es'.map Ent.cls) (n : List UInt8) : likeE es n = likeE es' n := by
  unfold likeE
  rw [placeE_cls h]
  cases placeE es' n with
  | none => rfl
  | some j => dsimp only; rw [itfAt_cls h]
theorem likesE_cls {es es' : List Ent} (h : es.map Ent.cls = es'.map Ent.cls) (l : List (List UInt8)) : likesE es l = likesE es' l := by
  unfold likesE
  exact List.map_congr_left (fun n _ => by rw [likeE_cls h])
theorem likesOk_cls {es es' : List Ent} (h : es.map Ent.cls = es'.map Ent.cls) (l : List (List UInt8)) : likesOk es l = likesOk es' l := by
  unfold likesOk
  congr 1
  funext n
  rw [likeE_cls h]
theorem linkedE_cls (cs : List Cls) (k : Nat) : (linkedE cs k).map Ent.cls = (allE0 cs).map Ent.cls := by
  unfold linkedE allE0
  rw [List.map_append, List.map_append, List.map_append, List.map_map, List.map_map, List.map_map]
  congr 1
  conv => rhs; rw [← List.take_append_drop k cs, List.map_append]
  rfl
theorem newT_cls (cs : List Cls) : (newT cs).map Ent.cls = (allE0 cs).map Ent.cls := by rw [← linkedE_all]; exact linkedE_cls cs _
def Uniq (es : List Ent) : Prop := ∀ (i : Nat) (e : Ent), es[i]? = some e → placeE es e.cls.name = some i
theorem startL_uniq : Uniq startL := fun i e h => by
  match i, h with
  | 0, h => obtain rfl := Option.some.inj h; decide
  | 1, h => obtain rfl := Option.some.inj h; decide
  | 2, h => obtain rfl := Option.some.inj h; decide
  | 3, h => obtain rfl := Option.some.inj h; decide
  | 4, h => obtain rfl := Option.some.inj h; decide
  | 5, h => obtain rfl := Option.some.inj h; decide
  | 6, h => obtain rfl := Option.some.inj h; decide
  | 7, h => obtain rfl := Option.some.inj h; decide
  | k + 8, h => rw [List.getElem?_eq_none (by rw [startL_len]; omega)] at h; cases h
theorem Uniq.snoc {es : List Ent} (h : Uniq es) {e : Ent} (hn : placeE es e.cls.name = none) : Uniq (es ++ [e]) := fun i x hx => by
  rw [placeE_app]
  rcases Nat.lt_or_ge i es.length with h1 | h1
  · rw [List.getElem?_append_left h1] at hx
    rw [h i x hx]
  · have h2 : i = es.length := by
      have := (List.getElem?_eq_some_iff.1 hx).1
      rw [List.length_append] at this
      simp at this
      omega
    subst h2
    rw [List.getElem?_append_right (Nat.le_refl _), Nat.sub_self] at hx
    obtain rfl := Option.some.inj hx
    rw [hn]
    simp
theorem enteredE_uniq {cs : List Cls} (hn : ∀ k c, cs[k]? = some c → placeE (enteredE cs k) c.name = none) : ∀ k, k ≤ cs.length → Uniq (enteredE cs k)
  | 0, _ => by rw [enteredE_zero]; exact startL_uniq
  | k + 1, hk => by
    have hc : cs[k]? = some cs[k] := List.getElem?_eq_getElem (by omega)
    rw [enteredE_succ hc]
    exact (enteredE_uniq hn k (by omega)).snoc (hn k _ hc)
theorem Uniq.cls {es es' : List Ent} (h : es.map Ent.cls = es'.map Ent.cls) (u : Uniq es') : Uniq es := fun i e he => by
  rw [placeE_cls h]
  have h1 := get_cls h i
  rw [he] at h1
  cases h2 : es'[i]? with
  | none => rw [h2] at h1; cases h1
  | some e' =>
    rw [h2] at h1
    rw [Option.some.inj (show some e.cls = some e'.cls from h1)]
    exact u i e' h2
structure Lined (cs : List Cls) : Prop where
  len : cs.length ≤ 1000
  good : ∀ c ∈ cs, c.Good
  names : ∀ k c, cs[k]? = some c → placeE (enteredE cs k) c.name = none
  ups : ∀ c ∈ cs, (upE (allE0 cs) c.sup).isSome = true
  likes : ∀ c ∈ cs, likesOk (allE0 cs) c.like = true
theorem Lined.uniq {cs : List Cls} (h : Lined cs) : Uniq (newT cs) := by
  refine Uniq.cls (newT_cls cs) ?_
  rw [← enteredE_all]
  exact enteredE_uniq h.names _ (Nat.le_refl _)
theorem newT_at {cs : List Cls} {i : Nat} {e : Ent} (h : (newT cs)[i]? = some e) : (i < 8 ∧ startL[i]? = some e) ∨ (8 ≤ i ∧ ∃ c, cs[i - 8]? = some c ∧ e = linkOne cs c) := by
  unfold newT at h
  rcases Nat.lt_or_ge i 8 with h1 | h1
  · rw [List.getElem?_append_left (by rw [startL_len]; exact h1)] at h
    exact .inl ⟨h1, h⟩
  · rw [List.getElem?_append_right (by rw [startL_len]; exact h1), startL_len, List.getElem?_map] at h
    obtain ⟨c, h2, h3⟩ := Option.map_eq_some_iff.1 h
    exact .inr ⟨h1, c, h2, h3.symm⟩
theorem allE0_len (cs : List Cls) : (allE0 cs).length = 8 + cs.length := by unfold allE0; rw [List.length_append, startL_len, List.length_map]
theorem start_par : ∀ i, i < 8 → ∀ d ∈ parE startL i, d < 2 ∧ d ≠ i := by decide
theorem parE_start {cs : List Cls} {i : Nat} (h : i < 8) : parE (newT cs) i = parE startL i := by
  unfold parE newT
  rw [List.getElem?_append_left (by rw [startL_len]; exact h)]
theorem Lined.par {cs : List Cls} (h : Lined cs) : ParIn (newT cs) := fun c d hd => by
  rw [newT_len]
  cases he : (newT cs)[c]? with
  | none => unfold parE at hd; rw [he] at hd; cases hd
  | some e =>
    rcases newT_at he with ⟨h1, h2⟩ | ⟨h1, x, h2, rfl⟩
    · rw [parE_start h1] at hd
      have := (start_par c h1 d hd).1
      omega
    · rw [parE_eq he] at hd
      unfold Ent.par linkOne at hd
      have hx := List.mem_of_getElem? h2
      rcases List.mem_append.1 hd with h3 | h3
      · have h4 : upE (allE0 cs) x.sup = some d := by simpa using h3
        have := (upE_lt h4).2
        rw [allE0_len] at this
        exact this
      · have := likesE_lt (h.likes x hx) d h3
        rw [allE0_len] at this
        exact this
theorem placeE_name {es : List Ent} {n : List UInt8} {i : Nat} (h : placeE es n = some i) : ∃ e, es[i]? = some e ∧ e.cls.name = n := by
  unfold placeE at h
  obtain ⟨h1, h2, _⟩ := List.findIdx?_eq_some_iff_getElem.1 h
  exact ⟨es[i], List.getElem?_eq_getElem h1, by simpa using h2⟩
theorem likeE_place {es : List Ent} {n : List UInt8} {j : Nat} (h : likeE es n = some j) : placeE es n = some j ∧ itfAt es j = true := by
  unfold likeE at h
  cases hp : placeE es n with
  | none => rw [hp] at h; cases h
  | some i =>
    rw [hp] at h
    dsimp only at h
    split at h
    · rename_i hi
      obtain rfl := Option.some.inj h
      exact ⟨rfl, hi⟩
    · cases h
theorem Lined.self {cs : List Cls} (h : Lined cs) (c : Nat) : c ∉ parE (newT cs) c := fun hd => by
  cases he : (newT cs)[c]? with
  | none => unfold parE at hd; rw [he] at hd; cases hd
  | some e =>
    rcases newT_at he with ⟨h1, h2⟩ | ⟨h1, x, h2, rfl⟩
    · rw [parE_start h1] at hd
      exact (start_par c h1 c hd).2 rfl
    · rw [parE_eq he] at hd
      unfold Ent.par linkOne at hd
      have hx := List.mem_of_getElem? h2
      have hap := (h.good x hx).apart
      have key : ∀ n, placeE (allE0 cs) n = some c → x.name = n := fun n hp => by
        rw [← placeE_cls (newT_cls cs)] at hp
        obtain ⟨e2, h5, h6⟩ := placeE_name hp
        rw [he] at h5
        obtain rfl := Option.some.inj h5
        exact h6
      rcases List.mem_append.1 hd with h3 | h3
      · have h4 : upE (allE0 cs) x.sup = some c := by simpa using h3
        exact hap.1 (key _ (upE_lt h4).1).symm
      · obtain ⟨n, hn1, hn2⟩ := List.mem_map.1 (show c ∈ x.like.map fun n => (likeE (allE0 cs) n).getD 0 from h3)
        have h5 := List.all_eq_true.1 (h.likes x hx) n hn1
        obtain ⟨j, hj⟩ := Option.isSome_iff_exists.1 h5
        rw [hj] at hn2
        obtain rfl : j = c := hn2
        exact hap.2 ((key _ (likeE_place hj).1) ▸ hn1)
theorem start_small : ∀ e ∈ startL, e.cls.name.length ≤ 32 ∧ e.cls.flds.length ≤ 32 ∧ e.cls.mths.length ≤ 32 ∧ e.lk.length ≤ 32 := by
  have h : startL.all (fun e => decide (e.cls.name.length ≤ 32 ∧ e.cls.flds.length ≤ 32 ∧ e.cls.mths.length ≤ 32 ∧ e.lk.length ≤ 32)) = true := by decide
  exact fun e he => of_decide_eq_true (List.all_eq_true.1 h e he)
theorem Lined.small {cs : List Cls} (h : Lined cs) (i : Nat) (e : Ent) (he : (newT cs)[i]? = some e) : e.cls.name.length ≤ 32 ∧ e.cls.flds.length ≤ 32 ∧ e.cls.mths.length ≤ 32 ∧ e.lk.length ≤ 32 := by
  rcases newT_at he with ⟨h1, h2⟩ | ⟨h1, x, h2, rfl⟩
  · exact start_small e (List.mem_of_getElem? h2)
  · have hg := h.good x (List.mem_of_getElem? h2)
    have h3 := classB_len hg.name
    have h4 := hg.nums
    refine ⟨h3, h4.2.1, h4.2.2, ?_⟩
    show (likesE (allE0 cs) x.like).length ≤ 32
    unfold likesE
    rw [List.length_map]
    exact h4.1
theorem Lined.shape {cs : List Cls} (h : Lined cs) (ha : Acyc (newT cs)) : Shape (newT cs) :=
  ha.shape h.par (by rw [newT_len]; have := h.len; omega) (fun i e he => by have := (h.small i e he).2.2.2; omega) (fun i e he => (h.small i e he).2.1) (fun i e he => (h.small i e he).1)
theorem added_walk (B : Nat → Nat) (F : Nat) (caps : Array Value) (x : Nat) (Y N : World → Prop) (w : World) (he : ∀ args w, (callFunc F args).run Tryz.prog w = .ok (.enter F args) w)
    (h : Calls Tryz.prog F (#[entV B x] ++ caps) w (YesNo Y (fun w1 =>
      Calls Tryz.prog 130 #[.pointer (some ⟨B x, 0, none⟩), .map (some w1.heap.size), .func (.func F) #[] caps] (w1.alloc (.map #[] 0)) (YesNo Y N)))) :
    Calls Tryz.prog 190 #[.pointer (some ⟨B x, 0, none⟩), .func (.func F) #[] caps] w (YesNo Y N) := by
  have hmm := @run_makeMap Tryz.prog
  have H := Lib.hid h
  clear h
  go_enter Tryz.func190, Tryz.ntmps190
  go_wp2_with fail
  refine H.out.mono ?_
  rintro e1 w3 ⟨b, rfl, hy, hno⟩
  have HY := Lib.hid hy
  have HNO := Lib.hid hno
  clear hy hno H
  cases b
  · have HK := Lib.hid (HNO.out rfl)
    clear HY HNO
    go_wp2_with fail
    refine HK.out.mono ?_
    rintro e1 w4 ⟨b, rfl, hy, hno⟩
    have HY := Lib.hid hy
    have HNO := Lib.hid hno
    clear hy hno HK
    cases b
    · have HK := Lib.hid (HNO.out rfl)
      clear HY HNO
      go_wp2
      go_ret
      exact ⟨false, rfl, (fun h => by cases h), fun _ => HK.out⟩
    · have HK := Lib.hid (HY.out rfl)
      clear HY HNO
      go_wp2
      go_ret
      exact ⟨true, rfl, fun _ => HK.out, (fun h => by cases h)⟩
  · have HK := Lib.hid (HY.out rfl)
    clear HY HNO
    go_wp2
    go_ret
    exact ⟨true, rfl, fun _ => HK.out, (fun h => by cases h)⟩
def addedE (es : List Ent) (x : Nat) : List Nat := x :: vis es es.length [] (lkOf es x)
theorem added_any {A : Nat → Prop} {B : Nat → Nat} {T mb : Nat} {es : List Ent} {w0 : World} (hT : Tab A w0 T mb B es) (hS : Shape es) (F : Nat) (caps : Array Value)
    (he : ∀ args w, (callFunc F args).run Tryz.prog w = .ok (.enter F args) w) (lo x : Nat) (hx : x < es.length) (J K : Nat → World → Prop) (w : World) (hsz : ∀ k w', J k w' → lo ≤ w'.heap.size)
    (hJ : ∀ k w', J k w' → Below w0.heap.size w0 w') (hJs : StaysJ lo J) (hF : StepsO B F caps lo (addedE es x) J K) (h0 : J 0 w) :
    Calls Tryz.prog 190 #[.pointer (some ⟨B x, 0, none⟩), .func (.func F) #[] caps] w (YesNo (fun w' => ∃ k, k < (addedE es x).length ∧ K k w') (J (addedE es x).length)) := by
  obtain ⟨e, hex⟩ : ∃ e, es[x]? = some e := ⟨_, List.getElem?_eq_getElem hx⟩
  have hlk : lkOf es x = e.lk := lkOf_eq hex
  refine added_walk B F caps x _ _ w he ?_
  refine (hF 0 x w rfl h0).mono fun e1 w1 q => q.1.mono' (fun h => ⟨0, Nat.succ_pos _, h⟩) (fun h1 => ?_)
  have hm : Met (w1.alloc (.map #[] 0)) w1.heap.size [] := Met.new w1
  have hl1 := hsz 1 w1 h1
  unfold addedE at hF ⊢
  rw [hlk] at hF ⊢
  refine (ifs_any hT hS.len hS.lk F caps he lo w1.heap.size hl1 es.length x e [] (fun k => J (k + 1)) (fun k => K (k + 1)) _ hex (hS.deep x e hex) .nil (fun y hy => by cases hy) (fun k w' h => hJ _ w' h) (fun k a b h1 h2 => hJs _ a b h1 h2)
    (fun k y w' hy hj => hF (k + 1) y w' (by rw [List.getElem?_cons_succ]; exact hy) hj) (hJs 1 _ _ h1 ((Only.refl _ w1).alloc _)) hm).mono fun e2 w2 q => q.mono' (fun ⟨k, hk, h⟩ => ⟨k + 1, by rw [List.length_cons]; omega, h⟩) (fun h => ?_)
  rw [List.length_cons]
  exact h.1
theorem added_pure {A : Nat → Prop} {B : Nat → Nat} {T mb : Nat} {es : List Ent} {w0 : World} (hT : Tab A w0 T mb B es) (hS : Shape es) (F : Nat) (caps : Array Value) (he : ∀ args w, (callFunc F args).run Tryz.prog w = .ok (.enter F args) w)
    (x : Nat) (hx : x < es.length) (p : Nat → Bool) (w : World) (hw : Below w0.heap.size w0 w) (hF : ∀ y w', y ∈ addedE es x → Below w.heap.size w w' → Calls Tryz.prog F (#[entV B y] ++ caps) w' (Said (p y) w')) :
    Calls Tryz.prog 190 #[.pointer (some ⟨B x, 0, none⟩), .func (.func F) #[] caps] w (Said ((addedE es x).any p) w) := by
  refine (added_any hT hS F caps he w.heap.size x hx (fun k w' => Below w.heap.size w w' ∧ ((addedE es x).take k).any p = false) (fun _ w' => Below w.heap.size w w' ∧ (addedE es x).any p = true) w (fun k w' h => h.1.size)
    (fun k w' h => hw.trans (h.1.mono hw.size)) (fun k w1 w2 h ho => ⟨h.1.trans (Only.below ho h.1.size (fun i hi => hi)), h.2⟩) (fun k y w' hy hj => ?_) ⟨Below.refl _ _, by simp⟩).mono fun e w' q => ?_
  · refine (hF y w' (List.mem_of_getElem? hy) hj.1).mono fun e w'' ⟨h1, h2⟩ => ?_
    have hb := hj.1.trans (h2.mono hj.1.size)
    refine ⟨⟨p y, h1, fun hp => ⟨hb, List.any_eq_true.2 ⟨y, List.mem_of_getElem? hy, hp⟩⟩, fun hp => ⟨hb, ?_⟩⟩, Only.ofBelow h2⟩
    rw [take_any_succ p _ k y hy, hj.2, hp]
    rfl
  · obtain ⟨b, h1, h2, h3⟩ := q
    cases b with
    | true =>
      obtain ⟨_, _, h4, h5⟩ := h2 rfl
      exact ⟨by rw [h5]; exact h1, h4⟩
    | false =>
      obtain ⟨h4, h5⟩ := h3 rfl
      rw [List.take_length] at h5
      exact ⟨by rw [h5]; exact h1, h4⟩
def upAt (es : List Ent) (x : Nat) : Option Nat := match es[x]? with | some e => e.up | none => none
def absAt (es : List Ent) (x : Nat) : Bool := match es[x]? with | some e => e.cls.abs | none => false
theorem upAt_eq {es : List Ent} {x : Nat} {e : Ent} (h : es[x]? = some e) : upAt es x = e.up := by unfold upAt; rw [h]
theorem absAt_eq {es : List Ent} {x : Nat} {e : Ent} (h : es[x]? = some e) : absAt es x = e.cls.abs := by unfold absAt; rw [h]
theorem mthsAt_eq {es : List Ent} {x : Nat} {e : Ent} (h : es[x]? = some e) : mthsAt es x = e.cls.mths := by unfold mthsAt; rw [h]
theorem chain_one {es : List Ent} : ∀ {L M : List Nat} {o : Option Nat}, Chain es L o → Chain es M o → L = M
  | [], [], _, _, _ => rfl
  | [], j :: m, _, h, ⟨k, _⟩ => by rw [show _ = none from h] at k; cases k
  | i :: l, [], _, ⟨h, _⟩, k => by rw [show _ = none from k] at h; cases h
  | i :: l, j :: m, _, ⟨h1, e, h2, h3⟩, ⟨k1, e', k2, k3⟩ => by
    obtain rfl := Option.some.inj (h1.symm.trans k1)
    obtain rfl := Option.some.inj (h2.symm.trans k2)
    rw [chain_one h3 k3]
theorem lineE_cons {es : List Ent} (hS : Shape es) (hu : ∀ (i : Nat) (e : Ent) (j : Nat), es[i]? = some e → e.up = some j → j < es.length) {x : Nat} {e : Ent} (he : es[x]? = some e) : lineE es (some x) = x :: lineE es e.up :=
  chain_one (hS.line (some x) (fun i h => by obtain rfl := Option.some.inj h; exact (List.getElem?_eq_some_iff.1 he).1)) ⟨rfl, e, he, hS.line e.up (fun j hj => hu x e j he hj)⟩
def absM (es : List Ent) (x : Nat) (n : List UInt8) : Bool := match findM es (some x) n with | some r => r.2.abs | none => false
def lackAt (es : List Ent) (x y : Nat) : Bool := (mthsAt es y).any fun m => absM es x m.name
def lacksE (es : List Ent) (x : Nat) : Bool := !absAt es x && ((addedE es x).any (lackAt es x) || ((lineE es (upAt es x)).takeWhile (absAt es)).any fun d => (addedE es d).any (lackAt es x))
theorem lack2_any {A A' : Nat → Prop} {B : Nat → Nat} {T mb : Nat} {es : List Ent} {w0 : World} (hT : Tab A w0 T mb B es) (hS : Shape es) (hml : ∀ i, (mthsAt es i).length ≤ 9223372036854775807) (x : Nat) (hx : x < es.length) (m : Mth) (v : Value) (c : Nat) (w : World) (hw : Below w0.heap.size w0 w)
    (hv : MthR A' w m v) (h : w.cell? ⟨c, 0, none⟩ = some (entV B x)) (hr : (findM es (some x) m.name).isSome = true) :
    Calls Tryz.prog 195 #[v, .pointer (some ⟨c, 0, none⟩)] w (Said (absM es x m.name) w) := by
  obtain ⟨⟨i, r⟩, hr⟩ := Option.isSome_iff_exists.1 hr
  obtain ⟨_, _, _, rfl, ⟨po, pc, rfl⟩, ⟨co, cc, rfl⟩, ⟨ko, kc, rfl⟩⟩ := mth_shape hv
  have HM : Hid (∀ W, Below w.heap.size w W → Calls Tryz.prog 90 #[entV B x, .string (S m.name)] W (MethG A B w0 (some (i, r)) W)) := Lib.hid (fun W hW => by
    have q := meth_any hT hS hml (some x) (fun i hi => by obtain rfl := Option.some.inj hi; exact hx) m.name W (hw.trans (hW.mono hw.size))
    rw [hr] at q
    exact q)
  have hcA : ∀ o : Obj, (w.alloc o).cell? ⟨c, 0, none⟩ = some (entV B x) := fun o => ((Only.refl (fun _ => False) w).alloc o).cell h id
  have ha : absM es x m.name = r.abs := by unfold absM; rw [hr]
  have HW := Lib.hid hw
  rw [ha]
  clear hT hS hml hw hv h hr ha
  go_enter Tryz.func195, Tryz.ntmps195
  go_wp2_with fail
  refine (HM.out _ ((Below.refl _ w).alloc (Nat.le_refl _) _)).mono ?_
  rintro e w1 ⟨po1, pm1, rfl, hP, hb1⟩
  obtain ⟨_, hpm⟩ := hP
  obtain ⟨b, o, v, hpm, hmv, _, hbl, hcl⟩ := hpm
  obtain rfl := Value.pointer.inj hpm
  obtain ⟨_, _, _, rfl, _, _, _⟩ := mth_shape hmv
  have HBW := Lib.hid (((Below.refl _ w).alloc (Nat.le_refl _) (.cells #[.string (S m.name), .slice po m.params.length pc, .string (S m.res), .bool m.abs, .int .i64 m.loc, .slice co m.code.length cc, .slice ko m.cats.length kc] 33)).trans (hb1.mono (by simp)))
  have c3 : w1.cell? ⟨b, o + 3, none⟩ = some (.bool r.abs) := (Only.ofBelow (S := fun _ => False) (HW.out.trans (HBW.out.mono HW.out.size))).cell (hcl 3 _ rfl) id
  clear hcl hb1 hcA HM hmv
  go_wp2
  go_ret
  exact ⟨rfl, HBW.out⟩
theorem lack1_any {A : Nat → Prop} {B : Nat → Nat} {T mb : Nat} {es : List Ent} {w0 : World} (hT : Tab A w0 T mb B es) (hS : Shape es) (hml : ∀ i, (mthsAt es i).length ≤ 9223372036854775807) (x : Nat) (hx : x < es.length) (y : Nat) (hy : y < es.length) (c : Nat) (w : World) (hw : Below w0.heap.size w0 w)
    (h : w.cell? ⟨c, 0, none⟩ = some (entV B x)) (hr : ∀ m ∈ mthsAt es y, (findM es (some x) m.name).isSome = true) :
    Calls Tryz.prog 194 #[entV B y, .pointer (some ⟨c, 0, none⟩)] w (Said (lackAt es x y) w) := by
  have hmf : ∀ (fn : Fn) (first cap : Array Value) (w : World), (Instr.makeFunc fn first cap).run Tryz.prog w = .ok (.func fn first cap) w := fun _ _ _ _ => rfl
  obtain ⟨e, he⟩ : ∃ e, es[y]? = some e := ⟨_, List.getElem?_eq_getElem hy⟩
  obtain ⟨lv, fv, mv, sv, hb, _, _, h3, _⟩ := (hT.below hw).ent y e he
  have hma := mthsAt_eq he
  rw [hma] at hr
  have c8 : w.cell? ⟨B y, 8, none⟩ = some mv := hb.cell 8 rfl
  have HC := Lib.hid (contf_mth (A := A) 195 #[.pointer (some ⟨c, 0, none⟩)] (fun m => absM es x m.name) e.cls.mths mv w (enters_fn Tryz.func195 (by kernel_rfl) rfl) h3 (fun k m v w' hm hw' hv =>
    lack2_any hT hS hml x hx m v c w' (hw.trans (hw'.mono hw.size)) hv ((Only.ofBelow (S := fun _ => False) hw').cell h id) (hr m (List.mem_of_getElem? hm))) (by have := hml y; rw [hma] at this; exact this))
  have hl : lackAt es x y = e.cls.mths.any fun m => absM es x m.name := by unfold lackAt; rw [hma]
  rw [hl]
  obtain ⟨mo, mc, rfl⟩ := h3.shape
  generalize (e.cls.mths.any fun m => absM es x m.name) = r at HC ⊢
  generalize e.cls.mths.length = k at HC c8
  clear hT hS hml he hb h3 hma hl hr h hx hy
  go_enter Tryz.func194, Tryz.ntmps194
  go_wp2_with fail
  refine HC.out.mono ?_
  rintro e w1 ⟨rfl, hb1⟩
  have HB1 := Lib.hid hb1
  clear hb1 HC c8
  go_wp2
  go_ret
  exact ⟨rfl, HB1.out⟩
theorem added_above {es : List Ent} (hS : Shape es) {o : Option Nat} (ho : ∀ i, o = some i → i < es.length) {d y : Nat} (hd : d ∈ lineE es o) (hy : y ∈ addedE es d) : y ∈ aboveE es o := by
  have hc := hS.line o ho
  unfold aboveE aboveL
  rcases List.mem_cons.1 hy with e | h
  · rw [e]; exact List.mem_append_left _ hd
  · refine List.mem_append_right _ ((ifsL_mem (hS.mem hc) y).2 ⟨d, hd, ?_⟩)
    obtain ⟨e, he⟩ := chain_mem hc d hd
    exact (vis_mem (by rw [lkOf_eq he]; exact hS.deep d e he) y).1 h
theorem find_above {es : List Ent} {o : Option Nat} {y : Nat} (hy : y ∈ aboveE es o) {m : Mth} (hm : m ∈ mthsAt es y) : (findM es o m.name).isSome = true := by
  unfold findM
  rw [List.isSome_findSome?]
  refine List.any_eq_true.2 ⟨y, hy, ?_⟩
  rw [Option.isSome_map]
  unfold ownM
  rw [List.find?_isSome]
  exact ⟨m, hm, by simp⟩
theorem lacks_any {A : Nat → Prop} {B : Nat → Nat} {T mb : Nat} {es : List Ent} {w0 : World} (hT : Tab A w0 T mb B es) (hS : Shape es) (hu : ParIn es) (hml : ∀ i, (mthsAt es i).length ≤ 9223372036854775807) (x : Nat) (hx : x < es.length) (w : World) (hw : Below w0.heap.size w0 w) :
    Calls Tryz.prog 122 #[entV B x] w (Said (lacksE es x) w) := by
  have hmf : ∀ (fn : Fn) (first cap : Array Value) (w : World), (Instr.makeFunc fn first cap).run Tryz.prog w = .ok (.func fn first cap) w := fun _ _ _ _ => rfl
  obtain ⟨e, he⟩ : ∃ e, es[x]? = some e := ⟨_, List.getElem?_eq_getElem hx⟩
  have hup : ∀ (i : Nat) (e : Ent) (j : Nat), es[i]? = some e → e.up = some j → j < es.length := fun i e j h1 h2 => hu i j (mem_par_up h1 h2)
  have hb1 : Below w.heap.size w (w.alloc (.cells #[entV B x] 94)) := below_alloc (Below.refl _ _) _
  have hox : ∀ i, some x = some i → i < es.length := fun i hi => by obtain rfl := Option.some.inj hi; exact hx
  have hline := lineE_cons hS hup he
  have hua := upAt_eq he
  have hcu : Chain es (lineE es e.up) e.up := hS.line e.up (fun j hj => hup x e j he hj)
  have hfound : ∀ d ∈ lineE es (some x), ∀ y ∈ addedE es d, ∀ m ∈ mthsAt es y, (findM es (some x) m.name).isSome = true := fun d hd y hy m hm => find_above (added_above hS hox hd hy) hm
  have HAD : Hid (∀ d W, d ∈ lineE es (some x) → Below (w.alloc (.cells #[entV B x] 94)).heap.size (w.alloc (.cells #[entV B x] 94)) W → Calls Tryz.prog 190 #[entV B d, .func (.func 194) #[] #[.pointer (some ⟨w.heap.size, 0, none⟩)]] W (Said ((addedE es d).any (lackAt es x)) W)) := Lib.hid (fun d W hd hW => by
    obtain ⟨ed, hed⟩ := chain_mem (hS.line (some x) hox) d hd
    refine added_pure hT hS _ _ (enters_fn Tryz.func194 (by kernel_rfl) rfl) d (List.getElem?_eq_some_iff.1 hed).1 (lackAt es x) W (hw.trans ((hb1.trans (hW.mono hb1.size)).mono hw.size)) (fun y w' hy hw' => ?_)
    have hb2 := hb1.trans ((hW.trans (hw'.mono hW.size)).mono hb1.size)
    exact lack1_any hT hS hml x hx y (aboveE_lt hS hox y (added_above hS hox hd hy)) w.heap.size w' (hw.trans (hb2.mono hw.size)) (((Box.new w #[entV B x] 94).below (hW.trans (hw'.mono hW.size))).cell 0 rfl) (hfound d hd y hy))
  have HB1 := Lib.hid hb1
  have HW := Lib.hid hw
  have HT := Lib.hid hT
  have HX : Hid (∀ W, Below (w.alloc (.cells #[entV B x] 94)).heap.size (w.alloc (.cells #[entV B x] 94)) W → W.cell? ⟨w.heap.size, 0, none⟩ = some (entV B x) ∧ W.cell? ⟨B x, 5, none⟩ = some (.bool e.cls.abs) ∧ W.cell? ⟨B x, 9, none⟩ = some (ptrV B e.up)) := Lib.hid (fun W hW => by
    obtain ⟨_, _, _, _, hb, _, _, _, _⟩ := (hT.below (hw.trans ((hb1.trans (hW.mono hb1.size)).mono hw.size))).ent x e he
    exact ⟨((Box.new w #[entV B x] 94).below hW).cell 0 rfl, hb.cell 5 rfl, hb.cell 9 rfl⟩)
  obtain ⟨R, hR⟩ : ∃ R, R = lacksE es x := ⟨_, rfl⟩
  rw [← hR]
  unfold lacksE at hR
  rw [hua, absAt_eq he] at hR
  have hmem : ∀ k i, (lineE es e.up)[k]? = some i → i ∈ lineE es (some x) := fun k i hk => by rw [hline]; exact List.mem_cons_of_mem _ (List.mem_of_getElem? hk)
  have hx0 : x ∈ lineE es (some x) := by rw [hline]; exact List.mem_cons_self
  have HMEM := Lib.hid hmem
  generalize lineE es e.up = L at hR hcu HMEM
  have HR := Lib.hid hR
  have HC := Lib.hid hcu
  have HX0 := Lib.hid hx0
  obtain ⟨g1, g2, g3⟩ := HX.out _ (Below.refl _ _)
  generalize hab : e.cls.abs = ab at HX HR g2
  generalize hup2 : e.up = o at HX HC g3
  clear hR hcu hx0 hT hS hu hml hx hw hup hb1 hox hline hua hfound hmem hab hup2 he
  cases ab with
  | true =>
    go_enter Tryz.func122, Tryz.ntmps122
    go_wp2
    go_ret
    refine ⟨?_, HB1.out⟩
    have := HR.out
    simp only [Bool.not_true, Bool.false_and] at this
    rw [this]
    rfl
  | false =>
    go_enter Tryz.func122, Tryz.ntmps122
    go_wp2_with fail
    refine (HAD.out x _ HX0.out (Below.refl _ _)).mono ?_
    rintro e1 w1 ⟨rfl, hb1⟩
    have HR1 : Hid (R = ((addedE es x).any (lackAt es x) || (L.takeWhile (absAt es)).any fun d => (addedE es d).any (lackAt es x))) := Lib.hid (by have := HR.out; simpa using this)
    obtain ⟨f1, f2, f3⟩ := HX.out _ hb1
    have HV1 := Lib.hid hb1
    generalize (addedE es x).any (lackAt es x) = r0 at HR1 ⊢
    clear g1 g2 g3 hb1 HR HX0
    obtain ⟨q, hq⟩ := ptrV_is B o
    rw [hq] at f3
    have HQ := Lib.hid hq
    clear hq
    go_wp2_with fail
    clear f1 f2 f3
    go_loopg [4, 5] (L.length + 1) (fun gk v3 v4 wr => ∃ (k : Nat) (o : Option Nat) (fd : Bool), v3 = .bool fd ∧ v4 = ptrV B o ∧ Chain es (L.drop k) o ∧ R = (fd || ((L.drop k).takeWhile (absAt es)).any fun d => (addedE es d).any (lackAt es x)) ∧ k ≤ L.length ∧ L.length - k < gk ∧ Below (w.alloc (.cells #[entV B x] 94)).heap.size (w.alloc (.cells #[entV B x] 94)) wr)
    case atStart => exact ⟨0, o, r0, rfl, HQ.out.symm, HC.out, HR1.out, Nat.zero_le _, by omega, HV1.out⟩
    case round =>
      obtain ⟨k, o, fd, rfl, hv, hc, hr, hk, hg, hbw⟩ := hrel
      have HBW := Lib.hid hbw
      have HRK := Lib.hid hr
      clear hbw hr
      cases fd with
      | true =>
        go_wp2
        go_ret
        exact ⟨by rw [HRK.out]; rfl, HB1.out.trans (HBW.out.mono HB1.out.size)⟩
      | false =>
        cases hd : L.drop k with
        | nil =>
          rw [hd] at hc
          obtain rfl : o = none := hc
          have hv' : u5 = .pointer none := hv
          subst hv'
          have hR0 : R = false := by rw [HRK.out, hd]; rfl
          have HR0 := Lib.hid hR0
          clear hv hd hR0
          go_wp2
          go_ret
          exact ⟨by rw [HR0.out]; rfl, HB1.out.trans (HBW.out.mono HB1.out.size)⟩
        | cons i r =>
          rw [hd] at hc
          obtain ⟨ho, ei, hei, hcr⟩ := hc
          obtain ⟨hxk, hrk, hkl⟩ := drop_cons hd
          subst ho
          have hv' : u5 = .pointer (some ⟨B i, 0, none⟩) := hv
          subst hv'
          obtain ⟨_, _, _, _, hbi, _, _, _, _⟩ := (HT.out.below (HW.out.trans ((HB1.out.trans (HBW.out.mono HB1.out.size)).mono HW.out.size))).ent i ei hei
          have c5 : wr.cell? ⟨B i, 5, none⟩ = some (.bool ei.cls.abs) := hbi.cell 5 rfl
          have hai := absAt_eq hei
          cases hab : ei.cls.abs with
          | false =>
            rw [hab] at c5 hai
            have hR0 : R = false := by rw [HRK.out, hd, List.takeWhile_cons, hai]; rfl
            have HR0 := Lib.hid hR0
            clear hv hcr hd hR0 hbi hai hab hxk hrk
            go_wp2
            go_ret
            exact ⟨by rw [HR0.out]; rfl, HB1.out.trans (HBW.out.mono HB1.out.size)⟩
          | true =>
            rw [hab] at c5 hai
            have hR1 : R = ((addedE es i).any (lackAt es x) || (r.takeWhile (absAt es)).any fun d => (addedE es d).any (lackAt es x)) := by rw [HRK.out, hd, List.takeWhile_cons, hai]; simp
            have HR2 := Lib.hid hR1
            have HCR := Lib.hid hcr
            have HRR := Lib.hid hrk
            have HEI := Lib.hid hei
            have HCALL := Lib.hid (HAD.out i wr (HMEM.out k i hxk) HBW.out)
            generalize (addedE es i).any (lackAt es x) = ri at HR2 HCALL
            clear hv hcr hd hR1 hbi hai hab hxk hrk hei
            go_wp2_with fail
            refine HCALL.out.mono ?_
            rintro e3 w3 ⟨rfl, hb3⟩
            have HB3 := Lib.hid (HBW.out.trans (hb3.mono HBW.out.size))
            clear hb3 c5 HCALL
            obtain ⟨_, _, _, _, hbi, _, _, _, _⟩ := (HT.out.below (HW.out.trans ((HB1.out.trans (HB3.out.mono HB1.out.size)).mono HW.out.size))).ent i ei HEI.out
            have c9 : w3.cell? ⟨B i, 9, none⟩ = some (ptrV B ei.up) := hbi.cell 9 rfl
            clear hbi
            go_wp2
            go_roundg (L.length - k)
            case measure => omega
            case rel => exact ⟨k + 1, ei.up, ri, rfl, rfl, by rw [HRR.out]; exact HCR.out, by rw [HRR.out]; exact HR2.out, hkl, by omega, HB3.out⟩
end Go.Proofs.YtpincofjopmaaaaGreatDoor
