/-
  What is below what: plain mathematics of a table's Sub and Join.
  What a class has of those above it: fields, methods, and what of these is abstract. Plain mathematics.
  Conditions: as each text of it says.
-/
import Derived.Test.YtpincofjopmaaaaGreatDoorM38
namespace Go.Proofs.YtpincofjopmaaaaGreatDoor
open Go.RowKit
theorem class_dep {n : List UInt8} (h : classB n = true) : depN n = 0 := by
  unfold depN
  split
  · exact base_deep (classB_name h)
  · rfl
theorem class_plain {n : List UInt8} (h : classB n = true) : plainB n = false := by
  cases hp : plainB n with
  | false => rfl
  | true => rw [plainB_class hp] at h; cases h
theorem null_class : classB nullL = false := by decide
theorem null_plain : plainB nullL = false := by decide
theorem null_dep : depN nullL = 0 := by
  unfold depN
  split
  · exact base_deep (show nameB nullL = true by decide)
  · rfl
theorem obj_class : classB objL = true := by decide
theorem up_eq {es : List Ent} {x y : Nat} (h : Up es x y) (k : parE es x = []) : y = x := by
  cases h with
  | refl => rfl
  | step h1 _ => rw [k] at h1; cases h1
theorem Wise.place {es : List Ent} (W : Wise es) {n : List UInt8} {i : Nat} (h : placeE es n = some i) : i < es.length ∧ ∃ e, es[i]? = some e ∧ e.cls.name = n ∧ classB n = true ∧ nmE es i = n := by
  obtain ⟨e, h1, h2⟩ := placeE_name h
  exact ⟨placeE_lt h, e, h1, h2, h2 ▸ W.cl i e h1, by rw [nmE_eq h1, h2]⟩
theorem Wise.not_class {es : List Ent} (W : Wise es) {n : List UInt8} (h : classB n = false) : placeE es n = none := by
  cases hp : placeE es n with
  | none => rfl
  | some i => obtain ⟨_, _, _, _, hc, _⟩ := W.place hp; rw [h] at hc; cases hc
theorem Wise.at {es : List Ent} (W : Wise es) {i : Nat} (hi : i < es.length) : placeE es (nmE es i) = some i ∧ classB (nmE es i) = true := by
  have he := List.getElem?_eq_getElem hi
  rw [nmE_eq he]
  exact ⟨W.uq i _ he, W.cl i _ he⟩
theorem Wise.pos {es : List Ent} (W : Wise es) : 1 < es.length := (List.getElem?_eq_some_iff.1 W.flt).1
theorem Wise.objAt {es : List Ent} (W : Wise es) : placeE es objL = some 0 := W.uq 0 _ W.obj
theorem Wise.fltAt {es : List Ent} (W : Wise es) : placeE es faultL = some 1 := W.uq 1 _ W.flt
theorem Wise.nm0 {es : List Ent} (W : Wise es) : nmE es 0 = objL := nmE_eq W.obj
theorem Wise.par0 {es : List Ent} (W : Wise es) : parE es 0 = [] := parE_eq W.obj
theorem Wise.kind_class {es : List Ent} (W : Wise es) {n : List UInt8} {i : Nat} (h : placeE es n = some i) : kindE es n = true := by
  obtain ⟨_, _, _, _, hc, _⟩ := W.place h
  unfold kindE declE
  rw [topL_zero (class_dep hc), h]
  simp
theorem Wise.kind_at {es : List Ent} (W : Wise es) {i : Nat} (hi : i < es.length) : kindE es (nmE es i) = true := W.kind_class (W.at hi).1
theorem Wise.upj {es : List Ent} (W : Wise es) (i : Nat) (e : Ent) (j : Nat) (he : es[i]? = some e) (hj : e.up = some j) : j < es.length := W.par i j (mem_par_up he hj)
theorem Wise.line {es : List Ent} (W : Wise es) {i : Nat} {e : Ent} (he : es[i]? = some e) : lineE es (some i) = i :: lineE es e.up := lineE_cons W.sh W.upj he
theorem Wise.lineUp {es : List Ent} (W : Wise es) {i : Nat} (hi : i < es.length) : lineE es (some i) = i :: lineE es (upAt es i) := by
  have he := List.getElem?_eq_getElem hi
  rw [W.line he, upAt_eq he]
theorem Wise.upAt_lt {es : List Ent} (W : Wise es) {i j : Nat} (h : upAt es i = some j) : j < es.length := by
  unfold upAt at h
  cases he : es[i]? with
  | none => rw [he] at h; cases h
  | some e => rw [he] at h; exact W.upj i e j he h
theorem Wise.lineInd {es : List Ent} (W : Wise es) {P : Nat → Prop} (h0 : P 0) (hs : ∀ i j, i < es.length → i ≠ 0 → upAt es i = some j → P j → P i) : ∀ i, i < es.length → P i := by
  have key : ∀ (L : List Nat) (i : Nat), Chain es L (some i) → P i := by
    intro L
    induction L with
    | nil => intro i h; cases h
    | cons x l ih =>
      intro i h
      obtain ⟨hx, e, he, hc⟩ := h
      obtain rfl := Option.some.inj hx
      by_cases hi : i = 0
      · rw [hi]; exact h0
      · obtain ⟨j, hj⟩ := W.up i e he hi
        rw [hj] at hc
        exact hs i j (List.getElem?_eq_some_iff.1 he).1 hi (by rw [upAt_eq he]; exact hj) (ih j hc)
  exact fun i hi => key _ i (W.sh.line (some i) (fun j h => by obtain rfl := Option.some.inj h; exact hi))
theorem Wise.zero_line {es : List Ent} (W : Wise es) {i : Nat} (hi : i < es.length) : 0 ∈ lineE es (some i) := by
  refine W.lineInd (P := fun i => 0 ∈ lineE es (some i)) ?_ ?_ i hi
  · rw [W.line W.obj]; exact List.mem_cons_self
  · intro i j hi _ hj h
    rw [W.lineUp hi, hj]
    exact List.mem_cons_of_mem _ h
theorem Wise.line_up {es : List Ent} (W : Wise es) : ∀ i, i < es.length → ∀ x ∈ lineE es (some i), Up es i x := by
  refine W.lineInd ?_ ?_
  · intro x hx
    rw [W.line W.obj] at hx
    rcases List.mem_cons.1 hx with e | h
    · rw [e]; exact .refl _
    · rw [show (⟨objC, none, []⟩ : Ent).up = none from rfl, lineE_none] at h; cases h
  · intro i j hi _ hj ih x hx
    rw [W.lineUp hi, hj] at hx
    rcases List.mem_cons.1 hx with e | h
    · rw [e]; exact .refl _
    · refine .step ?_ (ih x h)
      have he := List.getElem?_eq_getElem hi
      rw [upAt_eq he] at hj
      exact mem_par_up he hj
theorem lup_up {es : List Ent} {x y : Nat} (h : Lup es x y) : Up es x y := by
  induction h with
  | refl => exact .refl _
  | step h1 _ ih =>
    refine .step ?_ ih
    unfold lkOf at h1
    split at h1
    · rename_i e he; exact mem_par_lk he h1
    · cases h1
theorem Wise.lk_itf {es : List Ent} (W : Wise es) {i k : Nat} (h : k ∈ lkOf es i) : itfAt es k = true := by
  unfold lkOf at h
  split at h
  · rename_i e he; exact W.lk i e he k h
  · cases h
theorem Wise.lup_itf {es : List Ent} (W : Wise es) {i k : Nat} (h : Lup es i k) (hi : itfAt es i = true) : itfAt es k = true :=
  h.inv (P := fun x => itfAt es x = true) (fun _ _ _ hd => W.lk_itf hd) hi
theorem Wise.itf_up {es : List Ent} (W : Wise es) {i : Nat} (h : itfAt es i = true) : ∃ e, es[i]? = some e ∧ e.cls.itf = true ∧ e.up = some 0 ∧ e.cls.flds = [] ∧ ∀ m ∈ e.cls.mths, m.abs = true := by
  unfold itfAt at h
  split at h
  · rename_i e he; exact ⟨e, he, h, W.itf i e he h⟩
  · cases h
theorem Wise.mem_above {es : List Ent} (W : Wise es) {i : Nat} (hi : i < es.length) (x : Nat) : x ∈ aboveE es (some i) ↔ x ∈ lineE es (some i) ∨ ∃ d ∈ lineE es (some i), ∃ k ∈ lkOf es d, Lup es k x := by
  unfold aboveE aboveL
  rw [List.mem_append, ifsL_mem (W.sh.mem (W.sh.line (some i) (fun j h => by obtain rfl := Option.some.inj h; exact hi)))]
theorem Wise.above_iff {es : List Ent} (W : Wise es) {i : Nat} (hi : i < es.length) (x : Nat) : x ∈ aboveE es (some i) ↔ Up es i x := by
  rw [W.mem_above hi]
  constructor
  · rintro (h | ⟨d, hd, k, hk, hl⟩)
    · exact W.line_up i hi x h
    · exact (W.line_up i hi d hd).trans (lup_up (.step hk hl))
  · intro h
    refine h.inv (P := fun x => x ∈ lineE es (some i) ∨ ∃ d ∈ lineE es (some i), ∃ k ∈ lkOf es d, Lup es k x) ?_ ?_
    · intro x d hx hd
      have hpar : ∀ e, es[x]? = some e → e.up = some d ∨ d ∈ e.lk := fun e he => by
        rw [parE_eq he] at hd
        unfold Ent.par at hd
        rcases List.mem_append.1 hd with h1 | h1
        · exact .inl (by simpa using h1)
        · exact .inr h1
      rcases hx with hx | ⟨d0, hd0, k, hk, hl⟩
      · obtain ⟨e, he⟩ := chain_mem (W.sh.line (some i) (fun j h => by obtain rfl := Option.some.inj h; exact hi)) x hx
        rcases hpar e he with h1 | h1
        · refine .inl ?_
          have : ∀ i, i < es.length → ∀ x ∈ lineE es (some i), ∀ e d, es[x]? = some e → e.up = some d → d ∈ lineE es (some i) := by
            refine W.lineInd ?_ ?_
            · intro x hx e d he hd
              rw [W.line W.obj, show (⟨objC, none, []⟩ : Ent).up = none from rfl, lineE_none] at hx
              obtain rfl := List.mem_singleton.1 hx
              rw [W.obj] at he
              obtain rfl := Option.some.inj he
              cases hd
            · intro i j hi _ hj ih x hx e d he hd
              rw [W.lineUp hi, hj] at hx ⊢
              rcases List.mem_cons.1 hx with e1 | h1
              · subst e1
                rw [upAt_eq he, hd] at hj
                obtain rfl := Option.some.inj hj
                refine List.mem_cons_of_mem _ ?_
                rw [W.lineUp (W.upj x e d he hd)]
                exact List.mem_cons_self
              · exact List.mem_cons_of_mem _ (ih x h1 e d he hd)
          exact this i hi x hx e d he h1
        · exact .inr ⟨x, hx, d, by rw [lkOf_eq he]; exact h1, .refl _⟩
      · have hit := W.lup_itf hl (W.lk_itf hk)
        obtain ⟨e, he, _, hu, _⟩ := W.itf_up hit
        rcases hpar e he with h1 | h1
        · rw [hu] at h1
          obtain rfl := Option.some.inj h1
          exact .inl (W.zero_line hi)
        · exact .inr ⟨d0, hd0, k, hk, hl.trans (.step (by rw [lkOf_eq he]; exact h1) (.refl _))⟩
    · refine .inl ?_
      rw [W.lineUp hi]
      exact List.mem_cons_self
theorem Wise.any_above {es : List Ent} (W : Wise es) {a b : List UInt8} (h : (aboveE es (placeE es a)).any (fun x => some x == placeE es b) = true) : ∃ i j, placeE es a = some i ∧ placeE es b = some j ∧ Up es i j := by
  obtain ⟨x, hx, he⟩ := List.any_eq_true.1 h
  have hb : placeE es b = some x := (eq_of_beq he).symm
  cases ha : placeE es a with
  | none =>
    rw [ha] at hx
    unfold aboveE at hx
    rw [lineE_none] at hx
    cases hx
  | some i =>
    rw [ha] at hx
    exact ⟨i, x, rfl, hb, (W.above_iff (placeE_lt ha) x).1 hx⟩
inductive SubC (es : List Ent) : List UInt8 → List UInt8 → Prop
  | same (a : List UInt8) : SubC es a a
  | null (b : List UInt8) : b ≠ nullL → plainB b = false → SubC es nullL b
  | arr (a : List UInt8) : a ≠ nullL → 0 < depN a → SubC es a objL
  | cls (a b : List UInt8) (i j : Nat) : placeE es a = some i → placeE es b = some j → Up es i j → SubC es a b
theorem Wise.sub_case {es : List Ent} (W : Wise es) {a b : List UInt8} : subE es a b = true ↔ kindE es a = true ∧ kindE es b = true ∧ SubC es a b := by
  unfold subE
  simp only [Bool.and_eq_true, Bool.or_eq_true]
  constructor
  · rintro ⟨h1, h2, h3⟩
    refine ⟨h1, h2, ?_⟩
    by_cases hab : a = b
    · rw [hab]; exact .same b
    · rcases h3 with h3 | h3
      · exact absurd (eq_of_beq h3) hab
      · by_cases hn : a = nullL
        · rw [if_pos (by rw [hn]; exact beq_self_eq_true _)] at h3
          subst hn
          exact .null b (fun e => hab e.symm) (by simpa using h3)
        · rw [if_neg (by simpa using hn)] at h3
          split at h3
          · rename_i hd
            obtain rfl := eq_of_beq h3
            exact .arr a hn hd
          · obtain ⟨i, j, p, q, r⟩ := W.any_above h3
            exact .cls a b i j p q r
  · rintro ⟨h1, h2, h3⟩
    refine ⟨h1, h2, ?_⟩
    cases h3 with
    | same => exact .inl (beq_self_eq_true _)
    | null _ hn hp => refine .inr ?_; rw [if_pos (beq_self_eq_true _), hp]; rfl
    | arr _ hn hd => refine .inr ?_; rw [if_neg (by simpa using hn), if_pos hd]; exact beq_self_eq_true _
    | cls _ _ i j p q r =>
      refine .inr ?_
      obtain ⟨hi, _, _, _, hc, _⟩ := W.place p
      have hn : a ≠ nullL := fun e => by rw [e, null_class] at hc; cases hc
      rw [if_neg (by simpa using hn), if_neg (by rw [class_dep hc]; omega), p]
      exact List.any_eq_true.2 ⟨j, (W.above_iff hi j).2 r, by rw [q]; exact beq_self_eq_true _⟩
theorem Wise.up0 {es : List Ent} (W : Wise es) {i : Nat} (hi : i < es.length) : Up es i 0 := W.line_up i hi 0 (W.zero_line hi)
theorem Wise.sub_trans {es : List Ent} (W : Wise es) {a b c : List UInt8} (h : subE es a b = true) (k : subE es b c = true) : subE es a c = true := by
  rw [W.sub_case] at h k ⊢
  obtain ⟨ha, hb, h⟩ := h
  obtain ⟨_, hc, k⟩ := k
  refine ⟨ha, hc, ?_⟩
  cases h with
  | same => exact k
  | null _ hn hp =>
    cases k with
    | same => exact .null b hn hp
    | null => exact absurd rfl hn
    | arr => exact .null _ (by decide) (by decide)
    | cls _ _ i j p q r =>
      obtain ⟨_, _, _, _, hc, _⟩ := W.place q
      exact .null c (fun e => by rw [e, null_class] at hc; cases hc) (class_plain hc)
  | arr _ hn hd =>
    cases k with
    | same => exact .arr a hn hd
    | arr _ _ h => rw [class_dep obj_class] at h; omega
    | cls _ _ i j p q r =>
      rw [W.objAt] at p
      obtain rfl := Option.some.inj p
      have := up_eq r W.par0
      subst this
      obtain ⟨_, _, _, _, _, hnm⟩ := W.place q
      rw [W.nm0] at hnm
      rw [← hnm]
      exact .arr a hn hd
  | cls _ _ i j p q r =>
    cases k with
    | same => exact .cls a b i j p q r
    | null => obtain ⟨_, _, _, _, hc, _⟩ := W.place q; rw [null_class] at hc; cases hc
    | arr _ _ hd => obtain ⟨_, _, _, _, hc, _⟩ := W.place q; rw [class_dep hc] at hd; omega
    | cls _ _ i2 j2 p2 q2 r2 =>
      rw [q] at p2
      obtain rfl := Option.some.inj p2
      exact .cls a c i j2 p q2 (r.trans r2)
theorem Wise.sub_anti {es : List Ent} (W : Wise es) {a b : List UInt8} (h : subE es a b = true) (k : subE es b a = true) : a = b := by
  rw [W.sub_case] at h k
  obtain ⟨ha, hb, h⟩ := h
  obtain ⟨_, hc, k⟩ := k
  cases h with
  | same => rfl
  | null _ hn hp =>
    cases k with
    | same => rfl
    | null => rfl
    | cls _ _ i j p q r => obtain ⟨_, _, _, _, hc, _⟩ := W.place q; rw [null_class] at hc; cases hc
  | arr _ hn hd =>
    cases k with
    | same => rfl
    | arr => rfl
    | cls _ _ i j p q r => obtain ⟨_, _, _, _, hc, _⟩ := W.place q; rw [class_dep hc] at hd; omega
  | cls _ _ i j p q r =>
    cases k with
    | same => rfl
    | null => obtain ⟨_, _, _, _, hc, _⟩ := W.place q; rw [null_class] at hc; cases hc
    | arr _ _ hd => obtain ⟨_, _, _, _, hc, _⟩ := W.place q; rw [class_dep hc] at hd; omega
    | cls _ _ i2 j2 p2 q2 r2 =>
      rw [q] at p2
      rw [p] at q2
      obtain rfl := Option.some.inj p2
      obtain rfl := Option.some.inj q2
      obtain ⟨_, _, _, _, _, h1⟩ := W.place p
      obtain ⟨_, _, _, _, _, h2⟩ := W.place q
      rcases r.over with e | ho
      · rw [← h1, ← h2, e]
      · exact absurd (ho.then r2) (W.ac i)
theorem Wise.sub_self {es : List Ent} (W : Wise es) {a : List UInt8} (h : kindE es a = true) : subE es a a = true := W.sub_case.2 ⟨h, h, .same a⟩
theorem Wise.sub_kind {es : List Ent} (W : Wise es) {a b : List UInt8} (h : subE es a b = true) : kindE es a = true ∧ kindE es b = true := let ⟨h1, h2, _⟩ := W.sub_case.1 h; ⟨h1, h2⟩
theorem Wise.sub_cls {es : List Ent} (W : Wise es) {i j : Nat} (hi : i < es.length) (h : Up es i j) (hj : j < es.length) : subE es (nmE es i) (nmE es j) = true :=
  W.sub_case.2 ⟨W.kind_at hi, W.kind_at hj, .cls _ _ i j (W.at hi).1 (W.at hj).1 h⟩
theorem Wise.join_up {es : List Ent} (W : Wise es) (a b : List UInt8) : joinE es a b = [] ∨ subE es a (joinE es a b) = true ∧ subE es b (joinE es a b) = true := by
  unfold joinE
  split
  · rename_i h; exact .inr ⟨h, W.sub_self (W.sub_kind h).2⟩
  · split
    · rename_i h; exact .inr ⟨W.sub_self (W.sub_kind h).2, h⟩
    · split
      · rename_i x hx
        have hb := List.find?_some hx
        have hm := List.mem_of_find?_eq_some hx
        refine .inr ⟨?_, hb⟩
        unfold derE at hm
        split at hm
        · rename_i hd
          rw [W.objAt, W.line W.obj, show (⟨objC, none, []⟩ : Ent).up = none from rfl, lineE_none] at hm
          obtain rfl := List.mem_singleton.1 hm
          rw [W.nm0]
          have hn : a ≠ nullL := fun e => by have := hd.1; rw [e, null_dep] at this; omega
          exact W.sub_case.2 ⟨by unfold kindE; rw [hd.2]; simp, W.kind_class W.objAt, .arr a hn hd.1⟩
        · cases hp : placeE es a with
          | none => rw [hp, lineE_none] at hm; cases hm
          | some i =>
            rw [hp] at hm
            obtain ⟨hi, _, _, _, _, hnm⟩ := W.place hp
            have hx : x < es.length := by
              obtain ⟨e, he⟩ := chain_mem (W.sh.line (some i) (fun j h => by obtain rfl := Option.some.inj h; exact hi)) x hm
              exact (List.getElem?_eq_some_iff.1 he).1
            have := W.sub_cls hi (W.line_up i hi x hm) hx
            rw [hnm] at this
            exact this
      · exact .inl rfl
end Go.Proofs.YtpincofjopmaaaaGreatDoor
namespace Go.Proofs.YtpincofjopmaaaaGreatDoor
open Go.RowKit
theorem Wise.line_cut {es : List Ent} (W : Wise es) : ∀ i, i < es.length → ∀ j ∈ lineE es (some i), ∃ pre, lineE es (some i) = pre ++ lineE es (some j) := by
  refine W.lineInd ?_ ?_
  · intro j hj
    rw [W.line W.obj, show (⟨objC, none, []⟩ : Ent).up = none from rfl, lineE_none] at hj
    rw [List.mem_singleton.1 hj]
    exact ⟨[], rfl⟩
  · intro i k hi _ hk ih j hj
    rw [W.lineUp hi, hk] at hj
    rcases List.mem_cons.1 hj with e | h
    · rw [e]; exact ⟨[], rfl⟩
    · obtain ⟨pre, hp⟩ := ih j h
      exact ⟨i :: pre, by rw [W.lineUp hi, hk, hp]; rfl⟩
theorem Wise.line_lt {es : List Ent} (W : Wise es) {i : Nat} (hi : i < es.length) : ∀ d ∈ lineE es (some i), d < es.length := fun d hd => by
  obtain ⟨e, he⟩ := chain_mem (W.sh.line (some i) (fun j h => by obtain rfl := Option.some.inj h; exact hi)) d hd
  exact (List.getElem?_eq_some_iff.1 he).1
theorem Wise.up_line {es : List Ent} (W : Wise es) {i j : Nat} (hi : i < es.length) (h : Up es i j) (hn : itfAt es j = false) : j ∈ lineE es (some i) := by
  rcases (W.mem_above hi j).1 ((W.above_iff hi j).2 h) with h1 | ⟨d, _, k, hk, hl⟩
  · exact h1
  · have := W.lup_itf hl (W.lk_itf hk)
    rw [hn] at this
    cases this
theorem fldsL_app (es : List Ent) : ∀ a b : List Nat, fldsL es (a ++ b) = fldsL es b ++ fldsL es a
  | [], b => by simp [fldsL]
  | x :: a, b => by rw [List.cons_append, fldsL, fldsL_app es a b, fldsL, List.append_assoc]
theorem mem_fldsL {es : List Ent} {f : Fld} : ∀ {L : List Nat}, f ∈ fldsL es L ↔ ∃ x ∈ L, f ∈ fldsAt es x
  | [] => by simp [fldsL]
  | x :: l => by
    rw [fldsL, List.mem_append, mem_fldsL (L := l)]
    constructor
    · rintro (⟨y, hy, h⟩ | h)
      · exact ⟨y, List.mem_cons_of_mem _ hy, h⟩
      · exact ⟨x, List.mem_cons_self, h⟩
    · rintro ⟨y, hy, h⟩
      rcases List.mem_cons.1 hy with e | hy
      · rw [e] at h; exact .inr h
      · exact .inl ⟨y, hy, h⟩
theorem fldsAt_eq {es : List Ent} {i : Nat} {e : Ent} (h : es[i]? = some e) : fldsAt es i = e.cls.flds := by unfold fldsAt; rw [h]
theorem Wise.flds0 {es : List Ent} (W : Wise es) : fldsL es (lineE es (some 0)) = [] := by
  rw [W.line W.obj, show (⟨objC, none, []⟩ : Ent).up = none from rfl, lineE_none, fldsL, fldsAt_eq W.obj]
  rfl
theorem Wise.flds_pre {es : List Ent} (W : Wise es) {i j : Nat} (hi : i < es.length) (h : Up es i j) : fldsL es (lineE es (some j)) <+: fldsL es (lineE es (some i)) := by
  cases hn : itfAt es j with
  | false =>
    obtain ⟨pre, hp⟩ := W.line_cut i hi j (W.up_line hi h hn)
    rw [hp, fldsL_app]
    exact List.prefix_append _ _
  | true =>
    obtain ⟨e, he, _, hu, hf, _⟩ := W.itf_up hn
    rw [W.line he, hu, fldsL, W.flds0, fldsAt_eq he, hf]
    exact List.nil_prefix
theorem chk_parts {es : List Ent} {x : Nat} (h : chkT es x = 0) : clashF es x = false ∧ declAll es (clsAt es x) = true ∧ differsE es x = false ∧ lacksE es x = false := by
  unfold chkT at h
  split at h
  · cases h
  · split at h
    · cases h
    · split at h
      · cases h
      · split at h
        · cases h
        · rename_i a b c d
          exact ⟨by simpa using a, by simpa using b, by simpa using c, by simpa using d⟩
theorem Wise.flds_dist {es : List Ent} (W : Wise es) : ∀ i, i < es.length → (∀ d ∈ lineE es (some i), clashF es d = false) → ((fldsL es (lineE es (some i))).map Fld.name).Nodup := by
  refine W.lineInd ?_ ?_
  · intro _; rw [W.flds0]; exact List.nodup_nil
  · intro i j hi _ hj ih hall
    have hc := hall i (by rw [W.lineUp hi]; exact List.mem_cons_self)
    have ih := ih (fun d hd => hall d (by rw [W.lineUp hi, hj]; exact List.mem_cons_of_mem _ hd))
    rw [W.lineUp hi, hj, fldsL, List.map_append, List.nodup_append]
    have he := List.getElem?_eq_getElem hi
    refine ⟨ih, by rw [fldsAt_eq he]; exact W.fld i _ he, ?_⟩
    intro a ha b hb hab
    obtain ⟨f, hf, rfl⟩ := List.mem_map.1 ha
    obtain ⟨g, hg, rfl⟩ := List.mem_map.1 hb
    unfold clashF at hc
    rw [List.any_eq_false] at hc
    have h1 := hc g hg
    refine h1 ?_
    unfold hasF
    rw [hj, List.any_eq_true]
    obtain ⟨x, hx, hfx⟩ := mem_fldsL.1 hf
    exact ⟨x, hx, List.any_eq_true.2 ⟨f, hfx, by rw [hab]; exact beq_self_eq_true _⟩⟩
theorem findIdx_nodup {α : Type} (nm : α → List UInt8) : ∀ {l : List α} {k : Nat} {f : α}, (l.map nm).Nodup → l[k]? = some f → l.findIdx? (fun x => nm x == nm f) = some k := by
  intro l k f hn hk
  obtain ⟨h1, h2⟩ := List.getElem?_eq_some_iff.1 hk
  rw [List.findIdx?_eq_some_iff_getElem]
  refine ⟨h1, by rw [h2]; exact beq_self_eq_true _, fun j hj => ?_⟩
  intro he
  have he := eq_of_beq he
  rw [List.nodup_iff_pairwise_ne, List.pairwise_iff_getElem] at hn
  refine hn j k (by rw [List.length_map]; omega) (by rw [List.length_map]; exact h1) hj ?_
  rw [List.getElem_map, List.getElem_map, he, h2]
theorem Wise.place_keep {es : List Ent} (W : Wise es) {i j k : Nat} {f : Fld} (hi : i < es.length) (hc : ∀ d ∈ lineE es (some i), clashF es d = false) (h : Up es i j) (hk : (fldsL es (lineE es (some j)))[k]? = some f) : (fldsL es (lineE es (some i)))[k]? = some f ∧ (fldsL es (lineE es (some i))).findIdx? (fun x => x.name == f.name) = some k := by
  have h1 := pre_get (W.flds_pre hi h) hk
  exact ⟨h1, findIdx_nodup Fld.name (W.flds_dist i hi hc) h1⟩
theorem Wise.flds1 {es : List Ent} (W : Wise es) : fldsL es (lineE es (some 1)) = [⟨whatL, textK, false⟩] := by
  rw [W.line W.flt, show (⟨faultC, some 0, []⟩ : Ent).up = some 0 from rfl, fldsL, W.flds0, fldsAt_eq W.flt]
  rfl
theorem Wise.what {es : List Ent} (W : Wise es) {i : Nat} (hi : i < es.length) (hcl : ∀ d ∈ lineE es (some i), clashF es d = false) (h : subE es (nmE es i) faultL = true) : placeF es (nmE es i) whatL = some 0 := by
  obtain ⟨_, _, hc⟩ := W.sub_case.1 h
  have hu : Up es i 1 := by
    obtain ⟨hp, hcl⟩ := W.at hi
    generalize hn : nmE es i = n at hc hp hcl
    generalize hm : faultL = m at hc
    cases hc with
    | same =>
      rw [← hm, W.fltAt] at hp
      rw [← Option.some.inj hp]
      exact .refl _
    | null => rw [null_class] at hcl; cases hcl
    | arr _ _ hd => rw [class_dep hcl] at hd; omega
    | cls _ _ i2 j2 p q r =>
      rw [hp] at p
      rw [← hm, W.fltAt] at q
      obtain rfl := Option.some.inj p
      obtain rfl := Option.some.inj q
      exact r
  have := (W.place_keep (k := 0) hi hcl hu (by rw [W.flds1]; rfl)).2
  unfold placeF fldsO
  rw [(W.at hi).1]
  exact this
theorem Wise.owner {es : List Ent} (W : Wise es) {i x : Nat} {m : Mth} {n : List UInt8} (hi : i < es.length) (h : findM es (some i) n = some (x, m)) : x < es.length ∧ Up es i x ∧ m ∈ mthsAt es x ∧ m.name = n := by
  obtain ⟨h1, h2⟩ := findM_mem h
  obtain ⟨h3, h4⟩ := ownM_mem h2
  refine ⟨aboveE_lt W.sh (fun j hj => by obtain rfl := Option.some.inj hj; exact hi) x h1, (W.above_iff hi x).1 h1, h3, h4⟩
theorem Wise.above_added {es : List Ent} (W : Wise es) {i : Nat} (hi : i < es.length) {x : Nat} (h : x ∈ aboveE es (some i)) : ∃ d ∈ lineE es (some i), x ∈ addedE es d := by
  rcases (W.mem_above hi x).1 h with h1 | ⟨d, hd, hk⟩
  · exact ⟨x, h1, List.mem_cons_self⟩
  · refine ⟨d, hd, List.mem_cons_of_mem _ ?_⟩
    have he := List.getElem?_eq_getElem (W.line_lt hi d hd)
    exact (vis_mem (by rw [lkOf_eq he]; exact W.sh.deep d _ he) x).2 hk
theorem Wise.above_step {es : List Ent} (W : Wise es) {i j : Nat} (hi : i < es.length) (hj : upAt es i = some j) {x : Nat} (h : x ∈ aboveE es (some i)) : x ∈ addedE es i ∨ x ∈ aboveE es (some j) := by
  obtain ⟨d, hd, hx⟩ := W.above_added hi h
  rw [W.lineUp hi, hj] at hd
  rcases List.mem_cons.1 hd with e | h1
  · rw [e] at hx; exact .inl hx
  · exact .inr (added_above W.sh (fun k hk => by obtain rfl := Option.some.inj hk; exact W.upAt_lt hj) h1 hx)
theorem Wise.above0 {es : List Ent} (W : Wise es) {x : Nat} (h : x ∈ aboveE es (some 0)) : x = 0 := up_eq ((W.above_iff (by have := W.pos; omega) x).1 h) W.par0
theorem Wise.mths0 {es : List Ent} (W : Wise es) : mthsAt es 0 = [] := mthsAt_eq W.obj
theorem Wise.signs {es : List Ent} (W : Wise es) : ∀ i, i < es.length → (∀ d ∈ lineE es (some i), differsE es d = false) → ∀ n, ∃ c, ∀ y ∈ aboveE es (some i), ∀ m ∈ mthsAt es y, m.name = n → signB m = c := by
  refine W.lineInd ?_ ?_
  · intro _ n
    refine ⟨[], fun y hy m hm _ => ?_⟩
    rw [W.above0 hy, W.mths0] at hm
    cases hm
  · intro i j hi _ hj ih hall n
    have hd := hall i (by rw [W.lineUp hi]; exact List.mem_cons_self)
    have ih := ih (fun d hd => hall d (by rw [W.lineUp hi, hj]; exact List.mem_cons_of_mem _ hd))
    unfold differsE at hd
    rw [List.any_eq_false] at hd
    have key : ∀ y ∈ addedE es i, ∀ m ∈ mthsAt es y, m.name = n → ∃ m0, (msE es (addedE es i)).find? (fun k => k.name == n) = some m0 ∧ signB m = signB (inhE es i m0) := by
      intro y hy m hm hn
      have hms : m ∈ msE es (addedE es i) := List.mem_flatMap.2 ⟨y, hy, hm⟩
      have h1 := hd m hms
      have h2 : ((msE es (addedE es i)).find? (fun k => k.name == n)).isSome = true := List.find?_isSome.2 ⟨m, hms, by rw [hn]; exact beq_self_eq_true _⟩
      obtain ⟨m0, h3⟩ := Option.isSome_iff_exists.1 h2
      refine ⟨m0, h3, ?_⟩
      unfold clash knOf at h1
      rw [hn, h3] at h1
      simpa using h1
    cases hf : findM es (some j) n with
    | some r =>
      obtain ⟨c, hc⟩ := ih n
      have hr := W.owner (W.upAt_lt hj) hf
      have hcr := hc r.1 (findM_mem hf).1 r.2 hr.2.2.1 hr.2.2.2
      refine ⟨c, fun y hy m hm hn => ?_⟩
      rcases W.above_step hi hj hy with h1 | h1
      · obtain ⟨m0, h2, h3⟩ := key y h1 m hm hn
        have h4 : m0.name = n := by simpa using List.find?_some h2
        rw [h3, ← hcr]
        unfold inhE
        rw [hj, h4, hf]
        rfl
      · exact hc y h1 m hm hn
    | none =>
      refine ⟨match (msE es (addedE es i)).find? (fun k => k.name == n) with | some m0 => signB m0 | none => [], fun y hy m hm hn => ?_⟩
      rcases W.above_step hi hj hy with h1 | h1
      · obtain ⟨m0, h2, h3⟩ := key y h1 m hm hn
        have h4 : m0.name = n := by simpa using List.find?_some h2
        rw [h2, h3]
        unfold inhE
        rw [hj, h4, hf]
        rfl
      · have := find_above h1 hm
        rw [hn, hf] at this
        cases this
def Whole (es : List Ent) (i : Nat) : Prop := absAt es i = false → ∀ y ∈ aboveE es (some i), ∀ m ∈ mthsAt es y, absM es i m.name = false
theorem absM_some {es : List Ent} {i : Nat} {n : List UInt8} {r : Nat × Mth} (h : findM es (some i) n = some r) : absM es i n = r.2.abs := by unfold absM; rw [h]
theorem Wise.whole {es : List Ent} (W : Wise es) {i : Nat} (hi : i < es.length) (hla : ∀ d ∈ lineE es (some i), lacksE es d = false) : Whole es i := by
  have key : ∀ i, i < es.length → (∀ d ∈ lineE es (some i), lacksE es d = false) → ∀ d ∈ lineE es (some i), Whole es d := by
    refine W.lineInd ?_ ?_
    · intro _ d hd
      rw [W.line W.obj, show (⟨objC, none, []⟩ : Ent).up = none from rfl, lineE_none] at hd
      rw [List.mem_singleton.1 hd]
      intro _ y hy m hm
      rw [W.above0 hy, W.mths0] at hm
      cases hm
    · intro i j hi _ hj ih hall d hd
      have hlk := hall i (by rw [W.lineUp hi]; exact List.mem_cons_self)
      have ih := ih (fun d hd => hall d (by rw [W.lineUp hi, hj]; exact List.mem_cons_of_mem _ hd))
      rw [W.lineUp hi, hj] at hd
      rcases List.mem_cons.1 hd with e | h1
      · subst e
        intro ha y hy m hm
        obtain ⟨r, hr⟩ := Option.isSome_iff_exists.1 (find_above hy hm)
        obtain ⟨x, m'⟩ := r
        rw [absM_some hr]
        cases hab : m'.abs with
        | false => rfl
        | true =>
          exfalso
          have hl := hlk
          unfold lacksE at hl
          rw [ha] at hl
          simp only [Bool.not_false, Bool.true_and, Bool.or_eq_false_iff] at hl
          obtain ⟨hl1, hl2⟩ := hl
          rw [hj] at hl2
          obtain ⟨hx, _, hmx, hnx⟩ := W.owner hi hr
          have hbad : ∀ z, (addedE es z).any (lackAt es d) = false → x ∉ addedE es z := by
            intro z hz hxz
            have h2 := (List.any_eq_false.1 hz) x hxz
            refine h2 ?_
            unfold lackAt
            refine List.any_eq_true.2 ⟨m', hmx, ?_⟩
            rw [hnx, absM_some hr]
            exact hab
          have hnot : ∀ z, z = d ∨ z ∈ (lineE es (some j)).takeWhile (absAt es) → x ∉ addedE es z := by
            intro z hz
            rcases hz with e | hz
            · rw [e]; exact hbad d hl1
            · refine hbad z ?_
              have := (List.any_eq_false.1 hl2) z hz
              simpa using this
          obtain ⟨z, hz, hxz⟩ := W.above_added hi (findM_mem hr).1
          rw [W.lineUp hi, hj] at hz
          have hsplit := List.takeWhile_append_dropWhile (p := absAt es) (l := lineE es (some j))
          have hz2 : z ∈ (lineE es (some j)).dropWhile (absAt es) := by
            rcases List.mem_cons.1 hz with e | hz
            · exact absurd hxz (hnot z (.inl e))
            · rw [← hsplit] at hz
              rcases List.mem_append.1 hz with hz | hz
              · exact absurd hxz (hnot z (.inr hz))
              · exact hz
          cases hL2 : (lineE es (some j)).dropWhile (absAt es) with
          | nil => rw [hL2] at hz2; cases hz2
          | cons d0 L3 =>
            have hd0 : absAt es d0 = false := by
              have := List.head?_dropWhile_not (absAt es) (lineE es (some j))
              rw [hL2] at this
              simpa using this
            have hd0l : d0 ∈ lineE es (some j) := by rw [← hsplit, hL2]; exact List.mem_append_right _ List.mem_cons_self
            have hlt0 := W.line_lt (W.upAt_lt hj) d0 hd0l
            have hcut : lineE es (some d0) = d0 :: L3 := by
              have hch := W.sh.line (some j) (fun k hk => by obtain rfl := Option.some.inj hk; exact W.upAt_lt hj)
              have : ∀ (L1 L2 : List Nat) (o : Option Nat), Chain es (L1 ++ d0 :: L2) o → Chain es (d0 :: L2) (some d0) := by
                intro L1
                induction L1 with
                | nil => intro L2 o h; exact ⟨rfl, h.2⟩
                | cons a l ihl => intro L2 o h; obtain ⟨_, e, _, hc⟩ := h; exact ihl L2 _ hc
              refine chain_one (W.sh.line (some d0) (fun k hk => by obtain rfl := Option.some.inj hk; exact hlt0)) (this ((lineE es (some j)).takeWhile (absAt es)) L3 (some j) ?_)
              rw [← hL2, hsplit]
              exact hch
            have hxab : x ∈ aboveE es (some d0) := added_above W.sh (fun k hk => by obtain rfl := Option.some.inj hk; exact hlt0) (by rw [hcut, ← hL2]; exact hz2) hxz
            have hq := ih d0 hd0l hd0 x hxab m' hmx
            obtain ⟨r0, hr0⟩ := Option.isSome_iff_exists.1 (find_above hxab hmx)
            rw [absM_some hr0] at hq
            -- the first of the line that has it
            have hr1 := hr
            rw [← hnx] at hr1
            have hr2 := hr0
            unfold findM aboveE aboveL at hr1 hr2
            rw [List.findSome?_append] at hr1 hr2
            have hline : lineE es (some d) = (d :: (lineE es (some j)).takeWhile (absAt es)) ++ (d0 :: L3) := by rw [W.lineUp hi, hj, List.cons_append, ← hL2, hsplit]
            rw [hline, List.findSome?_append] at hr1
            rw [hcut] at hr2
            cases hA : (d :: (lineE es (some j)).takeWhile (absAt es)).findSome? (fun x => (ownM es x m'.name).map fun m => (x, m)) with
            | some q =>
              rw [hA] at hr1
              have : q = (x, m') := by simpa using hr1
              subst this
              obtain ⟨l1, a, l2, g1, g2, _⟩ := List.findSome?_eq_some_iff.1 hA
              obtain ⟨_, _, g4⟩ := Option.map_eq_some_iff.1 g2
              have g5 : a = x := congrArg Prod.fst g4
              subst g5
              refine hnot a ?_ List.mem_cons_self
              have : a ∈ d :: (lineE es (some j)).takeWhile (absAt es) := by rw [g1]; simp
              rcases List.mem_cons.1 this with e | h
              · exact .inl e
              · exact .inr h
            | none =>
              rw [hA] at hr1
              cases hB : (d0 :: L3).findSome? (fun x => (ownM es x m'.name).map fun m => (x, m)) with
              | some q =>
                rw [hB] at hr1 hr2
                have e1 : q = (x, m') := by simpa using hr1
                have e2 : q = r0 := by simpa using hr2
                rw [← e2, e1] at hq
                rw [hab] at hq
                cases hq
              | none =>
                rw [hB] at hr2
                rw [Option.none_or] at hr2
                obtain ⟨l1, a, l2, g1, g2, _⟩ := List.findSome?_eq_some_iff.1 hr2
                obtain ⟨mm, g3, g4⟩ := Option.map_eq_some_iff.1 g2
                have ga : a ∈ ifsL es es.length (d0 :: L3) := by rw [g1]; simp
                rw [← hcut] at ga
                obtain ⟨dd, _, k, hk, hlu⟩ := (ifsL_mem (W.sh.mem (W.sh.line (some d0) (fun j h => by obtain rfl := Option.some.inj h; exact hlt0))) a).1 ga
                obtain ⟨e, he, _, _, _, hall⟩ := W.itf_up (W.lup_itf hlu (W.lk_itf hk))
                have hmm := (ownM_mem g3).1
                rw [mthsAt_eq he] at hmm
                have := hall mm hmm
                have e3 : r0.2 = mm := by rw [← g4]
                rw [e3, this] at hq
                cases hq
      · exact ih d h1
  exact key i hi hla i (by rw [W.lineUp hi]; exact List.mem_cons_self)
theorem Wise.mths_keep {es : List Ent} (W : Wise es) {i j : Nat} (hi : i < es.length) (hd : ∀ d ∈ lineE es (some i), differsE es d = false) (hl : ∀ d ∈ lineE es (some i), lacksE es d = false) (h : Up es i j) {m : Mth} (hm : m ∈ mthsAt es j) : ∃ r, findM es (some i) m.name = some r ∧ signB r.2 = signB m ∧ (absAt es i = false → r.2.abs = false) := by
  have hj := (W.above_iff hi j).2 h
  obtain ⟨r, hr⟩ := Option.isSome_iff_exists.1 (find_above hj hm)
  obtain ⟨c, hc⟩ := W.signs i hi hd m.name
  have ho := W.owner (x := r.1) (m := r.2) hi hr
  refine ⟨r, hr, ?_, fun ha => ?_⟩
  · rw [hc j hj m hm rfl, hc r.1 (findM_mem hr).1 r.2 ho.2.2.1 ho.2.2.2]
  · have := W.whole hi hl ha j hj m hm
    rw [absM_some hr] at this
    exact this
theorem NewOk.line_chk {cs : List Cls} (h : NewOk cs) {i : Nat} (hi : i < (newT cs).length) : ∀ d ∈ lineE (newT cs) (some i), clashF (newT cs) d = false ∧ differsE (newT cs) d = false ∧ lacksE (newT cs) d = false := fun d hd => by
  have hc := chk_parts (h.chk (h.wise.line_lt hi d hd))
  exact ⟨hc.1, hc.2.2.1, hc.2.2.2⟩
end Go.Proofs.YtpincofjopmaaaaGreatDoor
