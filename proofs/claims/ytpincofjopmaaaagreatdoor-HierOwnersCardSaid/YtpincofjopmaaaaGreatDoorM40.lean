/-
  Two tables of the same classes in another order: what one answers, the other answers. Plain mathematics.
  The document's own table: what is below what, by paths; its kinds and its Sub. Plain mathematics.
  What holds of every class of a table: plain mathematics.
  Conditions: as each text of it says.
-/
import Derived.Test.YtpincofjopmaaaaGreatDoorM39
import Derived.Test.YtpincofjopmaaaaGreatDoorM50
namespace Go.Proofs.YtpincofjopmaaaaGreatDoor
open Go.RowKit
def mapE (π : Nat → Nat) (e : Ent) : Ent := ⟨e.cls, e.up.map π, e.lk.map π⟩
structure Iso (es es' : List Ent) (π : Nat → Nat) : Prop where
  len : es'.length = es.length
  at_ : ∀ x, es'[π x]? = (es[x]?).map (mapE π)
  inj : ∀ x y, π x = π y → x = y
  onto : ∀ y, ∃ x, π x = y
  place : ∀ n, placeE es' n = (placeE es n).map π
section
variable {es es' : List Ent} {π : Nat → Nat}
theorem Iso.lkOf (I : Iso es es' π) (x : Nat) : lkOf es' (π x) = (lkOf es x).map π := by
  unfold Proofs.YtpincofjopmaaaaGreatDoor.lkOf
  rw [I.at_]
  cases es[x]? <;> rfl
theorem Iso.upAt (I : Iso es es' π) (x : Nat) : upAt es' (π x) = (upAt es x).map π := by
  unfold Proofs.YtpincofjopmaaaaGreatDoor.upAt
  rw [I.at_]
  cases es[x]? <;> rfl
theorem Iso.absAt (I : Iso es es' π) (x : Nat) : absAt es' (π x) = absAt es x := by
  unfold Proofs.YtpincofjopmaaaaGreatDoor.absAt
  rw [I.at_]
  cases es[x]? <;> rfl
theorem Iso.mthsAt (I : Iso es es' π) (x : Nat) : mthsAt es' (π x) = mthsAt es x := by
  unfold Proofs.YtpincofjopmaaaaGreatDoor.mthsAt
  rw [I.at_]
  cases es[x]? <;> rfl
theorem Iso.fldsAt (I : Iso es es' π) (x : Nat) : fldsAt es' (π x) = fldsAt es x := by
  unfold Proofs.YtpincofjopmaaaaGreatDoor.fldsAt
  rw [I.at_]
  cases es[x]? <;> rfl
theorem Iso.clsAt (I : Iso es es' π) (x : Nat) : clsAt es' (π x) = clsAt es x := by
  unfold Proofs.YtpincofjopmaaaaGreatDoor.clsAt
  rw [I.at_]
  cases es[x]? <;> rfl
theorem Iso.nmE (I : Iso es es' π) (x : Nat) : nmE es' (π x) = nmE es x := by
  unfold Proofs.YtpincofjopmaaaaGreatDoor.nmE
  rw [I.at_]
  cases es[x]? <;> rfl
theorem Iso.parE (I : Iso es es' π) (x : Nat) : parE es' (π x) = (parE es x).map π := by
  unfold Proofs.YtpincofjopmaaaaGreatDoor.parE
  rw [I.at_]
  cases es[x]? with
  | none => rfl
  | some e =>
    show (mapE π e).par = e.par.map π
    unfold Ent.par mapE
    rw [List.map_append]
    cases e.up <;> rfl
theorem Iso.contains (I : Iso es es' π) (l : List Nat) (d : Nat) : (l.map π).contains (π d) = l.contains d := by
  rw [Bool.eq_iff_iff, List.contains_iff_mem, List.contains_iff_mem]
  constructor
  · intro h
    obtain ⟨x, hx, he⟩ := List.mem_map.1 h
    rw [← I.inj _ _ he]
    exact hx
  · exact List.mem_map_of_mem
theorem Iso.lineF (I : Iso es es' π) : ∀ (f : Nat) (o : Option Nat), lineF es' f (o.map π) = (lineF es f o).map π
  | 0, _ => rfl
  | f + 1, none => rfl
  | f + 1, some i => by
    show Proofs.YtpincofjopmaaaaGreatDoor.lineF es' (f + 1) (some (π i)) = _
    unfold Proofs.YtpincofjopmaaaaGreatDoor.lineF
    rw [I.at_]
    cases es[i]? with
    | none => rfl
    | some e =>
      show π i :: Proofs.YtpincofjopmaaaaGreatDoor.lineF es' f (e.up.map π) = _
      rw [Iso.lineF I f e.up]
      rfl
theorem Iso.lineE (I : Iso es es' π) (o : Option Nat) : lineE es' (o.map π) = (lineE es o).map π := by
  unfold Proofs.YtpincofjopmaaaaGreatDoor.lineE
  rw [I.len, I.lineF]
theorem Iso.vis (I : Iso es es' π) : ∀ (f : Nat) (M l : List Nat), vis es' f (M.map π) (l.map π) = (vis es f M l).map π
  | 0, _, _ => rfl
  | f + 1, M, l => by
    rw [vis_succ', vis_succ']
    have step : ∀ (acc : List Nat) (d : Nat), stepV es' f (M.map π) (acc.map π) (π d) = (stepV es f M acc d).map π := by
      intro acc d
      unfold stepV
      rw [← List.map_append, I.contains]
      split
      · rfl
      · have ih := Iso.vis I f (M ++ acc ++ [d]) (Proofs.YtpincofjopmaaaaGreatDoor.lkOf es d)
        rw [List.map_append, List.map_cons, List.map_nil] at ih
        rw [I.lkOf, ih]
        simp
    have fold : ∀ (l acc : List Nat), (l.map π).foldl (stepV es' f (M.map π)) (acc.map π) = (l.foldl (stepV es f M) acc).map π := by
      intro l
      induction l with
      | nil => intro acc; rfl
      | cons d l ih =>
        intro acc
        rw [List.map_cons, List.foldl_cons, List.foldl_cons, step, ih]
    exact fold l []
theorem Iso.ifsL (I : Iso es es' π) (f : Nat) (L : List Nat) : ifsL es' f (L.map π) = (ifsL es f L).map π := by
  have fold : ∀ (L acc : List Nat), (L.map π).foldl (fun acc d => acc ++ Proofs.YtpincofjopmaaaaGreatDoor.vis es' f acc (Proofs.YtpincofjopmaaaaGreatDoor.lkOf es' d)) (acc.map π) = (L.foldl (fun acc d => acc ++ Proofs.YtpincofjopmaaaaGreatDoor.vis es f acc (Proofs.YtpincofjopmaaaaGreatDoor.lkOf es d)) acc).map π := by
    intro L
    induction L with
    | nil => intro acc; rfl
    | cons d L ih =>
      intro acc
      rw [List.map_cons, List.foldl_cons, List.foldl_cons, I.lkOf, I.vis, ← List.map_append, ih]
  exact fold L []
theorem Iso.aboveE (I : Iso es es' π) (o : Option Nat) : aboveE es' (o.map π) = (aboveE es o).map π := by
  unfold Proofs.YtpincofjopmaaaaGreatDoor.aboveE aboveL
  rw [I.lineE, I.len, I.ifsL, List.map_append]
theorem Iso.ownM (I : Iso es es' π) (x : Nat) (n : List UInt8) : ownM es' (π x) n = ownM es x n := by
  unfold Proofs.YtpincofjopmaaaaGreatDoor.ownM
  rw [I.mthsAt]
theorem Iso.findM (I : Iso es es' π) (o : Option Nat) (n : List UInt8) : findM es' (o.map π) n = (findM es o n).map (fun r => (π r.1, r.2)) := by
  unfold Proofs.YtpincofjopmaaaaGreatDoor.findM
  rw [I.aboveE]
  induction Proofs.YtpincofjopmaaaaGreatDoor.aboveE es o with
  | nil => rfl
  | cons x l ih =>
    rw [List.map_cons, List.findSome?_cons, List.findSome?_cons, I.ownM, ih]
    cases Proofs.YtpincofjopmaaaaGreatDoor.ownM es x n <;> rfl
theorem Iso.inhE (I : Iso es es' π) (x : Nat) (m : Mth) : inhE es' (π x) m = inhE es x m := by
  unfold Proofs.YtpincofjopmaaaaGreatDoor.inhE
  rw [I.upAt, I.findM]
  cases Proofs.YtpincofjopmaaaaGreatDoor.findM es (Proofs.YtpincofjopmaaaaGreatDoor.upAt es x) m.name <;> rfl
theorem Iso.addedE (I : Iso es es' π) (x : Nat) : addedE es' (π x) = (addedE es x).map π := by
  unfold Proofs.YtpincofjopmaaaaGreatDoor.addedE
  rw [I.len, I.lkOf, List.map_cons, ← I.vis]
  rfl
theorem Iso.msE (I : Iso es es' π) (L : List Nat) : msE es' (L.map π) = msE es L := by
  unfold Proofs.YtpincofjopmaaaaGreatDoor.msE
  induction L with
  | nil => rfl
  | cons x L ih => rw [List.map_cons, List.flatMap_cons, List.flatMap_cons, I.mthsAt, ih]
theorem Iso.clash (I : Iso es es' π) (x : Nat) (ms : List Mth) (m : Mth) : clash es' (π x) ms m = clash es x ms m := by
  unfold Proofs.YtpincofjopmaaaaGreatDoor.clash knOf
  cases ms.find? (fun k => k.name == m.name) with
  | none => rfl
  | some k => simp only [Option.map_some, I.inhE]
theorem Iso.differsE (I : Iso es es' π) (x : Nat) : differsE es' (π x) = differsE es x := by
  unfold Proofs.YtpincofjopmaaaaGreatDoor.differsE
  rw [I.addedE, I.msE]
  congr 1
  funext m
  exact I.clash x _ m
theorem Iso.absM (I : Iso es es' π) (x : Nat) (n : List UInt8) : absM es' (π x) n = absM es x n := by
  unfold Proofs.YtpincofjopmaaaaGreatDoor.absM
  have := I.findM (some x) n
  rw [Option.map_some] at this
  rw [this]
  cases Proofs.YtpincofjopmaaaaGreatDoor.findM es (some x) n <;> rfl
theorem Iso.lackAt (I : Iso es es' π) (x y : Nat) : lackAt es' (π x) (π y) = lackAt es x y := by
  unfold Proofs.YtpincofjopmaaaaGreatDoor.lackAt
  rw [I.mthsAt]
  congr 1
  funext m
  exact I.absM x m.name
theorem any_map' {α β : Type} (f : α → β) (p : β → Bool) (q : α → Bool) (h : ∀ x, p (f x) = q x) : ∀ l : List α, (l.map f).any p = l.any q
  | [] => rfl
  | x :: l => by rw [List.map_cons, List.any_cons, List.any_cons, h, any_map' f p q h l]
theorem takeWhile_map' {α β : Type} (f : α → β) (p : β → Bool) (q : α → Bool) (h : ∀ x, p (f x) = q x) : ∀ l : List α, (l.map f).takeWhile p = (l.takeWhile q).map f
  | [] => rfl
  | x :: l => by
    rw [List.map_cons, List.takeWhile_cons, List.takeWhile_cons, h]
    split
    · rw [List.map_cons, takeWhile_map' f p q h l]
    · rfl
theorem Iso.lacksE (I : Iso es es' π) (x : Nat) : lacksE es' (π x) = lacksE es x := by
  unfold Proofs.YtpincofjopmaaaaGreatDoor.lacksE
  rw [I.absAt, I.addedE, I.upAt, I.lineE, any_map' π _ (Proofs.YtpincofjopmaaaaGreatDoor.lackAt es x) (fun y => I.lackAt x y), takeWhile_map' π _ (Proofs.YtpincofjopmaaaaGreatDoor.absAt es) I.absAt,
    any_map' π _ (fun d => (Proofs.YtpincofjopmaaaaGreatDoor.addedE es d).any (Proofs.YtpincofjopmaaaaGreatDoor.lackAt es x)) (fun d => by rw [I.addedE, any_map' π _ (Proofs.YtpincofjopmaaaaGreatDoor.lackAt es x) (fun y => I.lackAt x y)])]
theorem Iso.hasF (I : Iso es es' π) (o : Option Nat) (n : List UInt8) : hasF es' (o.map π) n = hasF es o n := by
  unfold Proofs.YtpincofjopmaaaaGreatDoor.hasF
  rw [I.lineE, any_map' π _ (fun x => (Proofs.YtpincofjopmaaaaGreatDoor.fldsAt es x).any fun f => f.name == n) (fun x => by rw [I.fldsAt])]
theorem Iso.clashF (I : Iso es es' π) (x : Nat) : clashF es' (π x) = clashF es x := by
  unfold Proofs.YtpincofjopmaaaaGreatDoor.clashF
  rw [I.fldsAt, I.upAt]
  congr 1
  funext f
  exact I.hasF _ f.name
theorem Iso.declE (I : Iso es es' π) (l : List UInt8) : declE es' l = declE es l := by
  unfold Proofs.YtpincofjopmaaaaGreatDoor.declE
  rw [I.place]
  cases placeE es (topL l) <;> rfl
theorem Iso.declAll (I : Iso es es' π) (c : Cls) : declAll es' c = declAll es c := by
  unfold Proofs.YtpincofjopmaaaaGreatDoor.declAll
  simp only [I.declE]
theorem Iso.chkT (I : Iso es es' π) (x : Nat) : chkT es' (π x) = chkT es x := by
  unfold Proofs.YtpincofjopmaaaaGreatDoor.chkT
  rw [I.clashF, I.clsAt, I.declAll, I.differsE, I.lacksE]
theorem Iso.kindE (I : Iso es es' π) (l : List UInt8) : kindE es' l = kindE es l := by
  unfold Proofs.YtpincofjopmaaaaGreatDoor.kindE
  rw [I.declE]
theorem Iso.subE (I : Iso es es' π) (a b : List UInt8) : subE es' a b = subE es a b := by
  unfold Proofs.YtpincofjopmaaaaGreatDoor.subE
  rw [I.kindE, I.kindE, I.place, I.place, I.aboveE, any_map' π _ (fun x => some x == placeE es b) (fun x => by
    rw [Bool.eq_iff_iff, beq_iff_eq, beq_iff_eq]
    cases placeE es b with
    | none => simp
    | some y => simp only [Option.map_some, Option.some.injEq]; exact ⟨fun h => I.inj _ _ h, fun h => by rw [h]⟩)]
theorem Iso.printL (I : Iso es es' π) : ∀ L : List Nat, printL es' (L.map π) = printL es L
  | [] => rfl
  | [x] => rfl
  | x :: y :: l => by
    have ih := Iso.printL I (y :: l)
    rw [List.map_cons] at ih
    show (Proofs.YtpincofjopmaaaaGreatDoor.nmE es' (π x) ++ [40]) ++ Proofs.YtpincofjopmaaaaGreatDoor.printL es' (π y :: l.map π) ++ [41] ++ (Proofs.YtpincofjopmaaaaGreatDoor.fldsAt es' (π x)).flatMap fldText ++ [46] = (Proofs.YtpincofjopmaaaaGreatDoor.nmE es x ++ [40]) ++ Proofs.YtpincofjopmaaaaGreatDoor.printL es (y :: l) ++ [41] ++ (Proofs.YtpincofjopmaaaaGreatDoor.fldsAt es x).flatMap fldText ++ [46]
    rw [ih, I.nmE, I.fldsAt]
theorem Iso.printE (I : Iso es es' π) (n : List UInt8) : printE es' n = printE es n := by
  unfold Proofs.YtpincofjopmaaaaGreatDoor.printE
  rw [I.place, I.lineE, I.printL]
theorem Iso.up (I : Iso es es' π) {x' y' : Nat} (h : Up es' x' y') : ∀ x, π x = x' → ∃ y, π y = y' ∧ Up es x y := by
  induction h with
  | refl => intro x hx; exact ⟨x, hx, .refl _⟩
  | step h1 _ ih =>
    intro x hx
    rw [← hx, I.parE] at h1
    obtain ⟨d, hd, he⟩ := List.mem_map.1 h1
    obtain ⟨y, hy, hu⟩ := ih d he
    exact ⟨y, hy, .step hd hu⟩
theorem Iso.acyc (I : Iso es es' π) (h : Acyc es) : Acyc es' := fun x' ⟨d', hd', hu⟩ => by
  obtain ⟨x, hx⟩ := I.onto x'
  rw [← hx, I.parE] at hd'
  obtain ⟨d, hd, he⟩ := List.mem_map.1 hd'
  obtain ⟨y, hy, hup⟩ := I.up hu d he
  rw [← hx] at hy
  have := I.inj _ _ hy
  subst this
  exact h y ⟨d, hd, hup⟩
end
def turnN (a b x : Nat) : Nat := if x < 8 then x else if x < 8 + a then x + b else if x < 8 + a + b then x - a else x
theorem turn_inj (a b x y : Nat) (h : turnN a b x = turnN a b y) : x = y := by
  unfold turnN at h
  split at h <;> split at h <;> (try split at h) <;> (try split at h) <;> (try split at h) <;> (try split at h) <;> omega
theorem turn_back (a b x : Nat) : turnN b a (turnN a b x) = x := by
  unfold turnN
  split <;> (try split) <;> (try split) <;> (try split) <;> (try split) <;> omega
theorem turn_at {α : Type} (S A B : List α) (hS : S.length = 8) (x : Nat) : (S ++ (B ++ A))[turnN A.length B.length x]? = (S ++ (A ++ B))[x]? := by
  unfold turnN
  by_cases h1 : x < 8
  · rw [if_pos h1, List.getElem?_append_left (by omega), List.getElem?_append_left (by omega)]
  rw [if_neg h1, List.getElem?_append_right (l₁ := S) (l₂ := A ++ B) (by omega)]
  by_cases h2 : x < 8 + A.length
  · rw [if_pos h2, List.getElem?_append_right (l₁ := S) (l₂ := B ++ A) (by omega), List.getElem?_append_right (l₁ := B) (l₂ := A) (by omega), List.getElem?_append_left (l₁ := A) (l₂ := B) (by omega)]
    congr 1
    omega
  rw [if_neg h2, List.getElem?_append_right (l₁ := A) (l₂ := B) (by omega)]
  by_cases h3 : x < 8 + A.length + B.length
  · rw [if_pos h3, List.getElem?_append_right (l₁ := S) (l₂ := B ++ A) (by omega), List.getElem?_append_left (l₁ := B) (l₂ := A) (by omega)]
    congr 1
    omega
  rw [if_neg h3, List.getElem?_eq_none (by rw [List.length_append, List.length_append]; omega), List.getElem?_eq_none (by omega)]
theorem all0_turn (A B : List Cls) (x : Nat) : (allE0 (B ++ A))[turnN A.length B.length x]? = (allE0 (A ++ B))[x]? := by
  unfold allE0
  rw [List.map_append, List.map_append]
  have := turn_at startL (A.map rawE) (B.map rawE) startL_len x
  rw [List.length_map, List.length_map] at this
  exact this
theorem uniq_turn {A B : List Cls} (h : Uniq (allE0 (A ++ B))) : Uniq (allE0 (B ++ A)) ∧ ∀ n, placeE (allE0 (B ++ A)) n = (placeE (allE0 (A ++ B)) n).map (turnN A.length B.length) := by
  have key : ∀ n j, placeE (allE0 (B ++ A)) n = some j → ∃ i, placeE (allE0 (A ++ B)) n = some i ∧ turnN A.length B.length i = j := by
    intro n j hj
    obtain ⟨e, h1, h2⟩ := placeE_name hj
    have h3 := all0_turn A B (turnN B.length A.length j)
    rw [turn_back, h1] at h3
    refine ⟨_, ?_, turn_back _ _ j⟩
    rw [← h2]
    exact h _ e h3.symm
  have key2 : ∀ n i, placeE (allE0 (A ++ B)) n = some i → (placeE (allE0 (B ++ A)) n).isSome = true := by
    intro n i hi
    obtain ⟨e, h1, h2⟩ := placeE_name hi
    have h3 := all0_turn A B i
    rw [h1] at h3
    unfold placeE
    rw [List.findIdx?_isSome, List.any_eq_true]
    exact ⟨e, List.mem_of_getElem? h3, by rw [h2]; exact beq_self_eq_true _⟩
  have hpl : ∀ n, placeE (allE0 (B ++ A)) n = (placeE (allE0 (A ++ B)) n).map (turnN A.length B.length) := by
    intro n
    cases hp : placeE (allE0 (A ++ B)) n with
    | none =>
      cases hq : placeE (allE0 (B ++ A)) n with
      | none => rfl
      | some j => obtain ⟨i, h1, _⟩ := key n j hq; rw [hp] at h1; cases h1
    | some i =>
      obtain ⟨j, hj⟩ := Option.isSome_iff_exists.1 (key2 n i hp)
      obtain ⟨i2, h1, h2⟩ := key n j hj
      rw [hp] at h1
      obtain rfl := Option.some.inj h1
      rw [hj, ← h2]
      rfl
  refine ⟨fun j e he => ?_, hpl⟩
  have h3 := all0_turn A B (turnN B.length A.length j)
  rw [turn_back, he] at h3
  rw [hpl, h _ e h3.symm, Option.map_some, turn_back]
theorem itf_turn (A B : List Cls) (x : Nat) : itfAt (allE0 (B ++ A)) (turnN A.length B.length x) = itfAt (allE0 (A ++ B)) x := by unfold itfAt; rw [all0_turn]
theorem fin_turn (A B : List Cls) (x : Nat) : finAt (allE0 (B ++ A)) (turnN A.length B.length x) = finAt (allE0 (A ++ B)) x := by unfold finAt; rw [all0_turn]
theorem upE_turn {A B : List Cls} (h : Uniq (allE0 (A ++ B))) (n : List UInt8) : upE (allE0 (B ++ A)) n = (upE (allE0 (A ++ B)) n).map (turnN A.length B.length) := by
  unfold upE
  rw [(uniq_turn h).2]
  cases placeE (allE0 (A ++ B)) n with
  | none => rfl
  | some j =>
    simp only [Option.map_some]
    rw [itf_turn, fin_turn]
    split <;> rfl
theorem likeE_turn {A B : List Cls} (h : Uniq (allE0 (A ++ B))) (n : List UInt8) : likeE (allE0 (B ++ A)) n = (likeE (allE0 (A ++ B)) n).map (turnN A.length B.length) := by
  unfold likeE
  rw [(uniq_turn h).2]
  cases placeE (allE0 (A ++ B)) n with
  | none => rfl
  | some j =>
    simp only [Option.map_some]
    rw [itf_turn]
    split <;> rfl
theorem likesOk_turn {A B : List Cls} (h : Uniq (allE0 (A ++ B))) (l : List (List UInt8)) : likesOk (allE0 (B ++ A)) l = likesOk (allE0 (A ++ B)) l := by
  unfold likesOk
  congr 1
  funext n
  rw [likeE_turn h]
  cases likeE (allE0 (A ++ B)) n <;> rfl
theorem Lined.uniq0 {cs : List Cls} (h : Lined cs) : Uniq (allE0 cs) := by
  rw [← enteredE_all]
  exact enteredE_uniq h.names _ (Nat.le_refl _)
theorem Lined.turn {A B : List Cls} (h : Lined (A ++ B)) : Lined (B ++ A) where
  len := by have := h.len; rw [List.length_append] at this ⊢; omega
  good := fun c hc => h.good c (by rw [List.mem_append] at hc ⊢; exact hc.symm)
  names := fun k c hk => by
    have hu := (uniq_turn h.uniq0).1
    have hkl := (List.getElem?_eq_some_iff.1 hk).1
    cases hp : placeE (enteredE (B ++ A) k) c.name with
    | none => rfl
    | some j =>
      exfalso
      obtain ⟨e, h1, h2⟩ := placeE_name hp
      have hj := placeE_lt hp
      rw [enteredE_len _ (by omega)] at hj
      have hpre : (allE0 (B ++ A))[j]? = some e := by
        have : enteredE (B ++ A) k <+: allE0 (B ++ A) := by
          unfold enteredE allE0
          exact (List.prefix_append_right_inj _).2 ((List.take_prefix _ _).map rawE)
        exact pre_get this h1
      have hat : (allE0 (B ++ A))[8 + k]? = some (rawE c) := by
        unfold allE0
        rw [List.getElem?_append_right (by rw [startL_len]; omega), startL_len, show 8 + k - 8 = k by omega, List.getElem?_map, hk]
        rfl
      have g1 := hu j e hpre
      have g2 := hu (8 + k) (rawE c) hat
      rw [h2] at g1
      rw [show (rawE c).cls.name = c.name from rfl, g1] at g2
      have := Option.some.inj g2
      omega
  ups := fun c hc => by
    rw [upE_turn h.uniq0, Option.isSome_map]
    exact h.ups c (by rw [List.mem_append] at hc ⊢; exact hc.symm)
  likes := fun c hc => by
    rw [likesOk_turn h.uniq0]
    exact h.likes c (by rw [List.mem_append] at hc ⊢; exact hc.symm)
theorem link_turn {A B : List Cls} (h : Lined (A ++ B)) {c : Cls} (hc : c ∈ A ++ B) : linkOne (B ++ A) c = mapE (turnN A.length B.length) (linkOne (A ++ B) c) := by
  unfold linkOne mapE
  rw [upE_turn h.uniq0]
  congr 1
  unfold likesE
  rw [List.map_map]
  refine List.map_congr_left (fun n hn => ?_)
  rw [likeE_turn h.uniq0]
  have := List.all_eq_true.1 (h.likes c hc) n hn
  obtain ⟨j, hj⟩ := Option.isSome_iff_exists.1 this
  show _ = turnN A.length B.length ((likeE (allE0 (A ++ B)) n).getD 0)
  rw [hj]
  rfl
theorem start_turn (a b : Nat) : ∀ e ∈ startL, mapE (turnN a b) e = e := by
  have h : ∀ e ∈ startL, e.lk = [] ∧ ∀ j, e.up = some j → j < 8 := by
    intro e he
    obtain ⟨i, hi, h2⟩ := List.mem_iff_getElem.1 he
    have h3 := start_wise i (by rw [startL_len] at hi; exact hi) e (by rw [List.getElem?_eq_getElem hi, h2])
    exact ⟨h3.2.2.1, fun j hj => by have := h3.2.2.2.2.1 j hj; omega⟩
  intro e he
  obtain ⟨h1, h2⟩ := h e he
  unfold mapE
  obtain ⟨c, u, l⟩ := e
  have h1 : l = [] := h1
  subst h1
  cases u with
  | none => rfl
  | some j =>
    have := h2 j rfl
    have h3 : turnN a b j = j := by unfold turnN; rw [if_pos this]
    simp only [Option.map_some, h3, List.map_nil]
theorem Lined.iso {A B : List Cls} (h : Lined (A ++ B)) : Iso (newT (A ++ B)) (newT (B ++ A)) (turnN A.length B.length) where
  len := by rw [newT_len, newT_len, List.length_append, List.length_append, Nat.add_comm B.length]
  at_ := fun x => by
    have h1 : newT (B ++ A) = (startL ++ (B ++ A).map (linkOne (A ++ B))).map (mapE (turnN A.length B.length)) := by
      unfold newT
      conv => rhs; rw [List.map_append, List.map_map]
      have h2 : startL.map (mapE (turnN A.length B.length)) = startL := by
        conv => rhs; rw [← List.map_id startL]
        exact List.map_congr_left (fun e he => start_turn _ _ e he)
      rw [h2]
      exact congrArg (startL ++ ·) (List.map_congr_left (fun c hc => link_turn h (by rw [List.mem_append] at hc ⊢; exact hc.symm)))
    rw [h1, List.getElem?_map]
    congr 1
    unfold newT
    rw [List.map_append, List.map_append]
    have := turn_at startL (A.map (linkOne (A ++ B))) (B.map (linkOne (A ++ B))) startL_len x
    rw [List.length_map, List.length_map] at this
    exact this
  inj := turn_inj _ _
  onto := fun y => ⟨turnN B.length A.length y, turn_back _ _ y⟩
  place := fun n => by
    rw [placeE_cls (newT_cls _), placeE_cls (newT_cls _)]
    exact (uniq_turn h.uniq0).2 n
theorem NewOk.turn {A B : List Cls} (h : NewOk (A ++ B)) : NewOk (B ++ A) where
  lined := h.lined.turn
  loops := by
    have ha := h.lined.iso.acyc h.acyc
    have hl := h.lined.turn
    have hf := loopedP_flag (n := (newT (B ++ A)).length) (by have := hl.len; rw [newT_len]; omega) (fun c d hd => hl.par c d hd) hl.self
    unfold firstT
    split
    · rename_i hlt
      exfalso
      have hb := List.findIdx_getElem (w := hlt)
      have hx : (loopedP (newT (B ++ A)) (newT (B ++ A)).length).loop.findIdx id < (newT (B ++ A)).length := Nat.lt_of_lt_of_eq hlt hf.1
      refine ha _ ((hf.2 _ hx).1 ?_)
      rw [List.getD_eq_getElem?_getD, List.getElem?_eq_getElem hlt]
      exact hb
    · omega
  checks := fun y hy => by
    have hy2 := orderP_lt h.lined.turn.par y hy
    obtain ⟨x, hx⟩ := h.lined.iso.onto y
    rw [← hx, h.lined.iso.chkT]
    refine h.chk ?_
    rcases Nat.lt_or_ge x (newT (A ++ B)).length with h1 | h1
    · exact h1
    · have := h.lined.iso.at_ x
      rw [List.getElem?_eq_none h1, hx, List.getElem?_eq_getElem hy2] at this
      cases this
theorem NewBad.not {cs : List Cls} {i : Int} {z : Nat} (h : NewBad cs i z) (k : NewOk cs) : False := by
  rcases h with ⟨_, c, _, hc, _, hn, _⟩ | ⟨_, ⟨j, c, _, hc, _, hn, _⟩ | ⟨_, ⟨_, c, _, hc, hn, _⟩ | ⟨_, ⟨hn, _⟩ | ⟨_, _, x, hx, _, _, hn, _⟩⟩⟩⟩
  · exact hn (k.lined.good c (List.mem_of_getElem? hc)).e
  · rw [k.lined.names j c hc] at hn; cases hn
  · rcases hn with ⟨_, hn⟩ | ⟨_, _, hn⟩
    · have := k.lined.ups c (List.mem_of_getElem? hc); rw [hn] at this; cases this
    · have := k.lined.likes c (List.mem_of_getElem? hc); rw [hn] at this; cases this
  · have := k.loops; omega
  · exact hn (k.checks x (List.mem_of_getElem? hx))
end Go.Proofs.YtpincofjopmaaaaGreatDoor
namespace Go.Proofs.YtpincofjopmaaaaGreatDoor
open Go.RowKit
theorem placeE_findR (es : List Ent) (n : List UInt8) : placeE es n = findR (es.map Ent.cls) n := by
  unfold placeE findR
  rw [List.findIdx?_map]
  rfl
def allR (cs : List Cls) : List Cls := givenL ++ cs
theorem startL_cls : startL.map Ent.cls = givenL := by
  unfold startL givenL
  rw [List.map_cons, List.map_cons, List.map_map]
  rfl
theorem newT_clss (cs : List Cls) : (newT cs).map Ent.cls = allR cs := by
  unfold newT allR
  rw [List.map_append, startL_cls, List.map_map]
  congr 1
  conv => rhs; rw [← List.map_id cs]
  rfl
theorem Lined.step {cs : List Cls} (h : Lined cs) (i j : Nat) : StepR (allR cs) i j ↔ j ∈ parE (newT cs) i := by
  have hf : ∀ n, findR (allR cs) n = placeE (allE0 cs) n := fun n => by rw [← newT_clss, ← placeE_findR, placeE_cls (newT_cls cs)]
  unfold StepR
  have hat : (allR cs)[i]? = ((newT cs)[i]?).map Ent.cls := by rw [← newT_clss, List.getElem?_map]
  rw [hat]
  cases he : (newT cs)[i]? with
  | none =>
    constructor
    · rintro ⟨c, hc, _⟩; cases hc
    · intro hd; unfold parE at hd; rw [he] at hd; cases hd
  | some e =>
    rw [parE_eq he]
    simp only [Option.map_some, Option.some.injEq]
    rcases newT_at he with ⟨h1, h2⟩ | ⟨h1, c, h2, rfl⟩
    · have h3 : ∀ i, i < 8 → ∀ e, startL[i]? = some e → (e.cls.like = [] ∧ e.lk = []) ∧ (e.up = none ∧ e.cls.sup = [] ∨ e.up = some 0 ∧ e.cls.sup = objL ∨ e.up = some 1 ∧ e.cls.sup = faultL) := by
        intro i hi e he
        match i, hi, he with
        | 0, _, he => obtain rfl := Option.some.inj he; exact ⟨⟨rfl, rfl⟩, .inl ⟨rfl, rfl⟩⟩
        | 1, _, he => obtain rfl := Option.some.inj he; exact ⟨⟨rfl, rfl⟩, .inr (.inl ⟨rfl, rfl⟩)⟩
        | 2, _, he => obtain rfl := Option.some.inj he; exact ⟨⟨rfl, rfl⟩, .inr (.inr ⟨rfl, rfl⟩)⟩
        | 3, _, he => obtain rfl := Option.some.inj he; exact ⟨⟨rfl, rfl⟩, .inr (.inr ⟨rfl, rfl⟩)⟩
        | 4, _, he => obtain rfl := Option.some.inj he; exact ⟨⟨rfl, rfl⟩, .inr (.inr ⟨rfl, rfl⟩)⟩
        | 5, _, he => obtain rfl := Option.some.inj he; exact ⟨⟨rfl, rfl⟩, .inr (.inr ⟨rfl, rfl⟩)⟩
        | 6, _, he => obtain rfl := Option.some.inj he; exact ⟨⟨rfl, rfl⟩, .inr (.inr ⟨rfl, rfl⟩)⟩
        | 7, _, he => obtain rfl := Option.some.inj he; exact ⟨⟨rfl, rfl⟩, .inr (.inr ⟨rfl, rfl⟩)⟩
        | k + 8, hk, _ => omega
      obtain ⟨⟨g1, g2⟩, g3⟩ := h3 i h1 e h2
      have hu := h.uniq0
      have p0 : findR (allR cs) objL = some 0 := by rw [hf]; exact hu 0 _ (by rw [allE0_start (by omega)]; rfl)
      have p1 : findR (allR cs) faultL = some 1 := by rw [hf]; exact hu 1 _ (by rw [allE0_start (by omega)]; rfl)
      have pn : findR (allR cs) [] = none := by
        rw [hf]
        cases hp : placeE (allE0 cs) [] with
        | none => rfl
        | some k =>
          exfalso
          rw [← placeE_cls (newT_cls cs)] at hp
          obtain ⟨e2, q1, q2⟩ := placeE_name hp
          have hc : classB e2.cls.name = true := by
            rcases newT_at q1 with ⟨h1, h2⟩ | ⟨h1, c, h2, rfl⟩
            · exact (start_wise k h1 e2 h2).1
            · exact (h.good c (List.mem_of_getElem? h2)).name
          rw [q2] at hc
          exact absurd hc (by decide)
      unfold Ent.par
      rw [g2, List.append_nil]
      rcases g3 with ⟨g3, g4⟩ | ⟨g3, g4⟩ | ⟨g3, g4⟩
      · constructor
        · rintro ⟨c, rfl, n, hn, hq⟩
          rw [g1, g4] at hn
          rw [List.mem_singleton.1 hn, pn] at hq
          cases hq
        · intro hd; rw [g3] at hd; cases hd
      · constructor
        · rintro ⟨c, rfl, n, hn, hq⟩
          rw [g1, g4] at hn
          rw [List.mem_singleton.1 hn, p0] at hq
          rw [g3, ← Option.some.inj hq]
          simp
        · intro hd
          rw [g3] at hd
          refine ⟨_, rfl, objL, by rw [g4]; exact List.mem_cons_self, ?_⟩
          rw [p0, show j = 0 by simpa using hd]
      · constructor
        · rintro ⟨c, rfl, n, hn, hq⟩
          rw [g1, g4] at hn
          rw [List.mem_singleton.1 hn, p1] at hq
          rw [g3, ← Option.some.inj hq]
          simp
        · intro hd
          rw [g3] at hd
          refine ⟨_, rfl, faultL, by rw [g4]; exact List.mem_cons_self, ?_⟩
          rw [p1, show j = 1 by simpa using hd]
    · have hm := List.mem_of_getElem? h2
      have hups := h.ups c hm
      have hlk := h.likes c hm
      obtain ⟨u, hu⟩ := Option.isSome_iff_exists.1 hups
      have hup := (upE_lt hu).1
      show _ ↔ j ∈ Ent.par ⟨c, upE (allE0 cs) c.sup, likesE (allE0 cs) c.like⟩
      unfold Ent.par
      rw [List.mem_append]
      show (∃ c', c = c' ∧ ∃ n ∈ c'.sup :: c'.like, findR (allR cs) n = some j) ↔ j ∈ (upE (allE0 cs) c.sup).toList ∨ j ∈ likesE (allE0 cs) c.like
      rw [hu]
      constructor
      · rintro ⟨c', rfl, n, hn, hq⟩
        rw [hf] at hq
        rcases List.mem_cons.1 hn with e | hn
        · rw [e, hup] at hq
          rw [Option.some.inj hq]
          simp
        · refine .inr (List.mem_map.2 ⟨n, hn, ?_⟩)
          obtain ⟨k, hk⟩ := Option.isSome_iff_exists.1 (List.all_eq_true.1 hlk n hn)
          rw [hk]
          have := (likeE_place hk).1
          rw [hq] at this
          exact (Option.some.inj this).symm
      · rintro (hd | hd)
        · refine ⟨c, rfl, c.sup, List.mem_cons_self, ?_⟩
          rw [hf, hup, show j = u by simpa using hd]
        · obtain ⟨n, hn, hq⟩ := List.mem_map.1 (show j ∈ c.like.map fun n => (likeE (allE0 cs) n).getD 0 from hd)
          refine ⟨c, rfl, n, List.mem_cons_of_mem _ hn, ?_⟩
          obtain ⟨k, hk⟩ := Option.isSome_iff_exists.1 (List.all_eq_true.1 hlk n hn)
          rw [hk] at hq
          have hq : k = j := hq
          rw [hf, (likeE_place hk).1, hq]
theorem plus_over {es : List Ent} {E : Nat → Nat → Prop} (hE : ∀ i j, E i j ↔ j ∈ parE es i) {i j : Nat} : Plus E i j ↔ Over es i j := by
  constructor
  · intro h
    induction h with
    | base h => exact .one ((hE _ _).1 h)
    | comp _ _ ih1 ih2 => exact ih1.then ih2.up
  · rintro ⟨d, hd, hu⟩
    have key : ∀ {x y : Nat}, Up es x y → ∀ i, x ∈ parE es i → Plus E i y := by
      intro x y h
      induction h with
      | refl x => intro i hi; exact .base ((hE _ _).2 hi)
      | step h1 _ ih => intro i hi; exact .comp (.base ((hE _ _).2 hi)) (ih _ h1)
    exact key hu i hd
theorem name_right {l : List UInt8} (h : nameB l = true) (hb : baseB l = true) : rightB l = true := by
  have hd := base_deep h
  unfold rightB baseL
  rw [hd, Nat.mul_zero, Nat.sub_zero, List.take_length, hb]
  rfl
theorem Wise.kindR {es : List Ent} (W : Wise es) (l : List UInt8) : kindE es l = (l == nullL || (rightB l && (plainB (baseL l) || (placeE es (baseL l)).isSome))) := by
  unfold kindE declE topL
  cases hr : rightB l with
  | true => simp
  | false =>
    have hp : plainB l = false := by
      cases hp : plainB l with
      | false => rfl
      | true =>
        have := name_right (plainB_name hp) (by unfold baseB; rw [hp]; rfl)
        rw [hr] at this
        cases this
    have hc : placeE es l = none := by
      cases hq : placeE es l with
      | none => rfl
      | some i =>
        obtain ⟨_, _, _, _, hc, _⟩ := W.place hq
        have := name_right (classB_name hc) (by unfold baseB; rw [hc]; simp)
        rw [hr] at this
        cases this
    simp [hp, hc]
theorem Wise.s1 {es : List Ent} (_ : Wise es) {a b : List UInt8} (h : kindE es a = false ∨ kindE es b = false ∨ a = b) : subE es a b = (a == b && kindE es a) := by
  unfold subE
  rcases h with h | h | h
  · rw [h]; simp
  · rw [h]
    by_cases e : a = b
    · rw [e, h]; simp
    · rw [show (a == b) = false from beq_eq_false_iff_ne.2 e]; simp
  · subst h
    rw [beq_self_eq_true]
    cases kindE es a <;> rfl
theorem not_true_false {b : Bool} (h : b = true → False) : b = false := by cases b with | false => rfl | true => exact (h rfl).elim
theorem plain_null {l : List UInt8} (h : plainB l = true) : l ≠ nullL := fun e => by rw [e, null_plain] at h; cases h
theorem plain_dep {l : List UInt8} (h : plainB l = true) : depN l = 0 := by
  unfold depN
  split
  · exact base_deep (plainB_name h)
  · rfl
theorem Wise.s2 {es : List Ent} (W : Wise es) {a b : List UInt8} (hab : a ≠ b) (h : plainB a = true ∨ plainB b = true ∨ b = nullL) : subE es a b = false := by
  refine not_true_false (fun hs => ?_)
  obtain ⟨_, _, hc⟩ := W.sub_case.1 hs
  cases hc with
  | same => exact hab rfl
  | null _ hn hp =>
    rcases h with h | h | h
    · rw [null_plain] at h; cases h
    · rw [hp] at h; cases h
    · exact hn h
  | arr _ hn hd =>
    rcases h with h | h | h
    · rw [plain_dep h] at hd; omega
    · exact absurd h (by decide)
    · exact absurd h (by decide)
  | cls _ _ i j p q r =>
    obtain ⟨_, _, _, _, h1, _⟩ := W.place p
    obtain ⟨_, _, _, _, h2, _⟩ := W.place q
    rcases h with h | h | h
    · rw [class_plain h1] at h; cases h
    · rw [class_plain h2] at h; cases h
    · rw [h, null_class] at h2; cases h2
theorem Wise.kind_sort {es : List Ent} (W : Wise es) {a : List UInt8} (h : kindE es a = true) : a = nullL ∨ plainB a = true ∨ (0 < depN a ∧ declE es a = true ∧ placeE es a = none) ∨ ∃ i, placeE es a = some i := by
  by_cases hn : a = nullL
  · exact .inl hn
  have hd : declE es a = true := by
    unfold kindE at h
    rw [show (a == nullL) = false from beq_eq_false_iff_ne.2 hn] at h
    simpa using h
  rcases Nat.eq_zero_or_pos (depN a) with h0 | h0
  · have hd2 := hd
    unfold declE at hd2
    rw [topL_zero h0, Bool.or_eq_true] at hd2
    rcases hd2 with h1 | h1
    · exact .inr (.inl h1)
    · exact .inr (.inr (.inr (Option.isSome_iff_exists.1 h1)))
  · refine .inr (.inr (.inl ⟨h0, hd, ?_⟩))
    cases hp : placeE es a with
    | none => rfl
    | some i => obtain ⟨_, _, _, _, h1, _⟩ := W.place hp; rw [class_dep h1] at h0; omega
theorem Wise.s3 {es : List Ent} (W : Wise es) {a b : List UInt8} (ha : kindE es a = true) (hb : kindE es b = true) (pa : plainB a = false) (pb : plainB b = false) (hbn : b ≠ nullL) (h : a = nullL ∨ b = objL) : subE es a b = true := by
  refine W.sub_case.2 ⟨ha, hb, ?_⟩
  by_cases hn : a = nullL
  · rw [hn]; exact .null b hbn pb
  · rcases h with h | h
    · exact absurd h hn
    · subst h
      rcases W.kind_sort ha with h | h | ⟨h, _⟩ | ⟨i, hi⟩
      · exact absurd h hn
      · rw [pa] at h; cases h
      · exact .arr a hn h
      · exact .cls a objL i 0 hi W.objAt (W.up0 (placeE_lt hi))
theorem Wise.s4 {es : List Ent} (W : Wise es) {a b : List UInt8} (hab : a ≠ b) (ha : kindE es a = true) (hb : kindE es b = true) (han : a ≠ nullL) (hbo : b ≠ objL) :
    subE es a b = true ↔ ∃ i j, placeE es a = some i ∧ placeE es b = some j ∧ Over es i j := by
  rw [W.sub_case]
  constructor
  · rintro ⟨_, _, hc⟩
    cases hc with
    | same => exact absurd rfl hab
    | null => exact absurd rfl han
    | arr => exact absurd rfl hbo
    | cls _ _ i j p q r =>
      rcases r.over with e | h
      · subst e
        obtain ⟨_, _, _, _, _, h1⟩ := W.place p
        obtain ⟨_, _, _, _, _, h2⟩ := W.place q
        exact absurd (h1.symm.trans h2) hab
      · exact ⟨i, j, p, q, h⟩
  · rintro ⟨i, j, p, q, r⟩
    exact ⟨ha, hb, .cls a b i j p q r.up⟩
theorem Wise.joinR {es : List Ent} (W : Wise es) (a b : List UInt8) (hab : subE es a b = false) (hba : subE es b a = false) :
    joinE es a b = if (!kindE es a || !kindE es b || plainB a || plainB b) = true then [] else
      match (lineE es (placeE es a)).find? (fun x => subE es b (nmE es x)) with | some x => nmE es x | none => objL := by
  have hj : joinE es a b = match (lineE es (derE es a)).find? (fun x => subE es b (nmE es x)) with | some x => nmE es x | none => [] := by
    unfold joinE
    rw [hab, hba]
    rfl
  rw [hj]
  have hnone : ∀ o, ((∀ x, x ∈ lineE es o → subE es b (nmE es x) = false)) → (lineE es o).find? (fun x => subE es b (nmE es x)) = none := fun o h => by
    rw [List.find?_eq_none]
    intro x hx; rw [h x hx]; decide
  by_cases hc : (!kindE es a || !kindE es b || plainB a || plainB b) = true
  · rw [if_pos hc]
    simp only [Bool.or_eq_true, Bool.not_eq_true'] at hc
    have : ∀ x, x ∈ lineE es (derE es a) → subE es b (nmE es x) = false := by
      intro x hx
      refine not_true_false (fun hs => ?_)
      have hx2 : x < es.length := by
        obtain ⟨e, he⟩ := chain_mem (W.sh.line (derE es a) (fun i h => derE_lt h)) x hx
        exact (List.getElem?_eq_some_iff.1 he).1
      have hk := W.sub_kind hs
      rcases hc with ((hc | hc) | hc) | hc
      · -- a is no kind: nothing is on its line
        unfold derE at hx
        split at hx
        · rename_i hd
          unfold kindE at hc
          rw [hd.2] at hc
          simp at hc
        · cases hp : placeE es a with
          | none => rw [hp, lineE_none] at hx; cases hx
          | some i => rw [W.kind_class hp] at hc; cases hc
      · rw [hk.1] at hc; cases hc
      · unfold derE at hx
        rw [plain_dep hc] at hx
        rw [if_neg (by omega)] at hx
        cases hp : placeE es a with
        | none => rw [hp, lineE_none] at hx; cases hx
        | some i => obtain ⟨_, _, _, _, h1, _⟩ := W.place hp; rw [class_plain h1] at hc; cases hc
      · have hn : b ≠ nmE es x := fun e => by
          have := (W.at hx2).2
          rw [← e, ] at this
          rw [class_plain this] at hc
          cases hc
        rw [W.s2 hn (.inl hc)] at hs
        cases hs
    rw [hnone _ this]
  · rw [if_neg hc]
    simp only [Bool.or_eq_true, Bool.not_eq_true', not_or, Bool.not_eq_true, Bool.not_eq_false] at hc
    obtain ⟨⟨⟨ka, kb⟩, pa⟩, pb⟩ := hc
    have hbo : subE es b objL = true := by
      by_cases e : b = objL
      · rw [e]; exact W.sub_self (W.kind_class W.objAt)
      · exact W.s3 kb (W.kind_class W.objAt) pb (by decide) (by decide) (.inr rfl)
    rcases W.kind_sort ka with h | h | ⟨h, hd, hp⟩ | ⟨i, hi⟩
    · -- null: below all
      exfalso
      subst h
      by_cases e : b = nullL
      · rw [e, W.sub_self ka] at hab; cases hab
      · rw [W.s3 ka kb pa pb e (.inl rfl)] at hab; cases hab
    · rw [pa] at h; cases h
    · unfold derE
      rw [if_pos ⟨h, hd⟩, hp, lineE_none, W.objAt, W.line W.obj, show (⟨objC, none, []⟩ : Ent).up = none from rfl, lineE_none, List.find?_cons, W.nm0, hbo]
      exact W.nm0
    · obtain ⟨hl, _, _, _, hcl, _⟩ := W.place hi
      have hder : derE es a = placeE es a := by unfold derE; rw [class_dep hcl, if_neg (by omega)]
      rw [hder, hi]
      have : ((lineE es (some i)).find? (fun x => subE es b (nmE es x))).isSome = true := List.find?_isSome.2 ⟨0, W.zero_line hl, by rw [W.nm0]; exact hbo⟩
      obtain ⟨x, hx⟩ := Option.isSome_iff_exists.1 this
      rw [hx]
end Go.Proofs.YtpincofjopmaaaaGreatDoor
namespace Go.Proofs.YtpincofjopmaaaaGreatDoor
open Go.RowKit
theorem class_ne_null {n : List UInt8} (h : classB n = true) : n ≠ nullL := fun e => by rw [e, null_class] at h; cases h
theorem class_right {n : List UInt8} (h : classB n = true) : rightB n = true := name_right (classB_name h) (by unfold baseB; rw [h]; simp)
theorem class_base {n : List UInt8} (h : classB n = true) : baseL n = n := by
  unfold baseL
  rw [base_deep (classB_name h), Nat.mul_zero, Nat.sub_zero, List.take_length]
theorem kind_null (es : List Ent) : kindE es nullL = true := by unfold kindE; rw [beq_self_eq_true]; rfl
theorem Wise.of_obj {es : List Ent} (W : Wise es) {n : List UInt8} {i : Nat} (h : placeE es n = some i) : subE es (ofL n) objL = true := by
  obtain ⟨_, _, _, _, hc, _⟩ := W.place h
  have hr := class_right hc
  have hd := base_deep (classB_name hc)
  have hr2 : rightB (ofL n) = true := by rw [ofL_right, hr, hd]; rfl
  have hdep : 0 < depN (ofL n) := by rw [depN_right hr2, ofL_deep]; omega
  have hk : kindE es (ofL n) = true := by
    unfold kindE declE topL
    rw [hr2, if_pos rfl, ofL_base, class_base hc, h]
    simp
  refine W.sub_case.2 ⟨hk, W.kind_class W.objAt, .arr _ (fun e => ?_) hdep⟩
  rw [e, null_dep] at hdep
  omega
structure RootF (es : List Ent) (n : List UInt8) : Prop where
  k1 : subE es n objL = true
  k2 : subE es n n = true
  k3 : subE es nullL n = true
  k4 : subE es n nullL = false
  k5 : joinE es n objL = objL
  k6 : joinE es n n = n
  k7 : joinE es nullL n = n
  k8 : subE es n kInt = false
  k9 : subE es (ofL n) objL = true
theorem Wise.rootF {es : List Ent} (W : Wise es) {i : Nat} (hi : i < es.length) : RootF es (nmE es i) := by
  obtain ⟨hp, hc⟩ := W.at hi
  have k1 : subE es (nmE es i) objL = true := by
    have := W.sub_cls hi (W.up0 hi) (by have := W.pos; omega)
    rw [W.nm0] at this
    exact this
  have k2 := W.sub_self (W.kind_at hi)
  have k3 : subE es nullL (nmE es i) = true := W.sub_case.2 ⟨kind_null es, W.kind_at hi, .null _ (class_ne_null hc) (class_plain hc)⟩
  refine ⟨k1, k2, k3, W.s2 (class_ne_null hc) (.inr (.inr rfl)), by unfold joinE; rw [k1]; rfl, by unfold joinE; rw [k2]; rfl, by unfold joinE; rw [k3]; rfl, W.s2 (fun e => ?_) (.inr (.inl (by decide))), W.of_obj hp⟩
  rw [e] at hc
  exact absurd hc (by decide)
theorem NewBad.ne {cs : List Cls} {i : Int} {z : Nat} (h : NewBad cs i z) : z ≠ 0 := by
  rcases h with ⟨_, c, _, _, h1, h2, _⟩ | ⟨_, ⟨_, _, _, _, h1, _⟩ | ⟨_, ⟨_, _, _, _, h1, _⟩ | ⟨_, ⟨_, _, h1⟩ | ⟨_, _, _, _, _, h1, h2, _⟩⟩⟩⟩
  · rw [h1]; exact h2
  · omega
  · rcases h1 with ⟨h1, _⟩ | ⟨h1, _⟩ <;> omega
  · omega
  · rw [h1]; exact h2
end Go.Proofs.YtpincofjopmaaaaGreatDoor
