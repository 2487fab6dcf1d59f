/-
  What meet does: plain mathematics.
  Conditions: as each text of it says.
-/
import Derived.Test.YtpincofjopmaaaaGreatDoorM31
import Derived.Test.YtpincofjopmaaaaGreatDoorM22
set_option maxHeartbeats 8000000
set_option maxRecDepth 100000
namespace Go.Proofs.YtpincofjopmaaaaGreatDoor
open Go.RowKit
def stepM (m : Grp → Nat → Grp × Nat) (t : Grp × Nat) (d : Nat) : Grp × Nat :=
  if t.1.met.getD d 0 = 0 then ((m t.1 d).1, min t.2 (m t.1 d).2) else (t.1, min t.2 (t.1.met.getD d 0))
def enterG (s : Grp) (c : Nat) : Grp := ⟨s.met.set c (s.cnt + 1), s.cnt + 1, s.opn ++ [c], s.loop⟩
def leaveG (s : Grp) (t : Grp × Nat) : Grp × Nat := if t.2 = s.cnt + 1 then (finishG t.1 s.opn.length, t.2) else t
def meetP (es : List Ent) : Nat → Grp → Nat → Grp × Nat
  | 0, s, _ => (s, 0)
  | f + 1, s, c => leaveG s ((parE es c).foldl (stepM (meetP es f)) (enterG s c, s.cnt + 1))
def loopedP (es : List Ent) (n : Nat) : Grp := (List.range n).foldl (fun s c => if s.met.getD c 0 = 0 then (meetP es n s c).1 else s) ⟨List.replicate n 0, 0, [], List.replicate n false⟩
def leftM (l : List Nat) : Nat := l.count 0
theorem leftM_set : ∀ {l : List Nat} {c z : Nat}, l[c]? = some 0 → z ≠ 0 → leftM (l.set c z) + 1 = leftM l
  | [], c, z, h, _ => by simp at h
  | b :: l, 0, z, h, hz => by
    obtain rfl := Option.some.inj h
    unfold leftM
    rw [List.set_cons_zero, List.count_cons, List.count_cons]
    simp [hz]
  | b :: l, c + 1, z, h, hz => by
    have ih := leftM_set (l := l) (c := c) (z := z) (by simpa using h) hz
    unfold leftM at ih ⊢
    rw [List.set_cons_succ, List.count_cons, List.count_cons]
    omega
theorem leftM_put : ∀ (l : List Nat) (c z : Nat), z ≠ 0 → leftM (l.set c z) ≤ leftM l
  | [], c, z, _ => by simp [leftM]
  | b :: l, 0, z, hz => by
    unfold leftM
    rw [List.set_cons_zero, List.count_cons, List.count_cons]
    simp [hz]
  | b :: l, c + 1, z, hz => by
    have ih := leftM_put l c z hz
    unfold leftM at ih ⊢
    rw [List.set_cons_succ, List.count_cons, List.count_cons]
    omega
theorem leftM_len (l : List Nat) : leftM l ≤ l.length := List.count_le_length
theorem leftM_none {l : List Nat} {c : Nat} (hc : c < l.length) (h : leftM l = 0) : l.getD c 0 ≠ 0 := by
  have h1 := List.count_eq_zero.1 h
  rw [List.getD_eq_getElem?_getD, List.getElem?_eq_getElem hc]
  exact fun e => h1 (e ▸ List.getElem_mem hc)
theorem getD_some {l : List Nat} {c : Nat} (hc : c < l.length) : l[c]? = some (l.getD c 0) := by
  rw [List.getD_eq_getElem?_getD, List.getElem?_eq_getElem hc]
  rfl
structure GI (n : Nat) (s : Grp) : Prop where
  mlen : s.met.length = n
  opn : ∀ c ∈ s.opn, c < n
  cnt : s.cnt + leftM s.met ≤ n
  olen : s.opn.length + leftM s.met ≤ n
  big : ∀ z ∈ s.met, z ≤ doneN
theorem closeG_left (big : Bool) (s : Grp) : ∀ (l : List Nat), leftM (closeG big s l).met ≤ leftM s.met ∧ (closeG big s l).met.length = s.met.length := by
  intro l
  unfold closeG
  have go : ∀ (l : List Nat) (m : List Nat), leftM (l.foldl (fun m c => m.set c doneN) m) ≤ leftM m ∧ (l.foldl (fun m c => m.set c doneN) m).length = m.length := by
    intro l
    induction l with
    | nil => intro m; exact ⟨Nat.le_refl _, rfl⟩
    | cons c l ih =>
      intro m
      rw [List.foldl_cons]
      have h1 := ih (m.set c doneN)
      exact ⟨Nat.le_trans h1.1 (leftM_put m c doneN (by decide)), h1.2.trans List.length_set⟩
  exact go l s.met
theorem closeG_big (big : Bool) (s : Grp) (l : List Nat) (h : ∀ z ∈ s.met, z ≤ doneN) : ∀ z ∈ (closeG big s l).met, z ≤ doneN := by
  unfold closeG
  have go : ∀ (l : List Nat) (m : List Nat), (∀ z ∈ m, z ≤ doneN) → ∀ z ∈ l.foldl (fun m c => m.set c doneN) m, z ≤ doneN := by
    intro l
    induction l with
    | nil => intro m hm; exact hm
    | cons c l ih =>
      intro m hm
      rw [List.foldl_cons]
      refine ih _ (fun z hz => ?_)
      rcases List.mem_or_eq_of_mem_set hz with h1 | h1
      · exact hm z h1
      · rw [h1]; exact Nat.le_refl _
  exact go l s.met h
theorem GI.finish {n : Nat} {s : Grp} (h : GI n s) (first : Nat) (hf : first ≤ s.opn.length) : GI n (finishG s first) ∧ leftM (finishG s first).met ≤ leftM s.met ∧ (finishG s first).opn.length = first := by
  have h1 := closeG_left (decide (1 < (s.opn.drop first).length)) s (s.opn.drop first)
  have hl : (s.opn.take first).length = first := by rw [List.length_take]; omega
  refine ⟨⟨h1.2.trans h.mlen, fun c hc => h.opn c (List.mem_of_mem_take hc), Nat.le_trans (Nat.add_le_add_left h1.1 _) h.cnt, ?_, closeG_big (decide (1 < (s.opn.drop first).length)) s (s.opn.drop first) h.big⟩, h1.1, hl⟩
  have h2 := h.olen
  show (s.opn.take first).length + leftM (closeG (decide (1 < (s.opn.drop first).length)) s (s.opn.drop first)).met ≤ n
  have h3 := h1.1
  omega
theorem GI.enter {n : Nat} {s : Grp} (h : GI n s) (hn : n ≤ 1048576) {c : Nat} (hc : c < n) (h0 : s.met.getD c 0 = 0) : GI n (enterG s c) ∧ leftM (enterG s c).met + 1 = leftM s.met ∧ (enterG s c).opn.length = s.opn.length + 1 := by
  have h1 : s.met[c]? = some 0 := by rw [getD_some (by rw [h.mlen]; exact hc), h0]
  have h2 := leftM_set (z := s.cnt + 1) h1 (by omega)
  have h3 := h.cnt
  have h4 := h.olen
  refine ⟨⟨by show (s.met.set c _).length = n; rw [List.length_set]; exact h.mlen, fun d hd => ?_, ?_, ?_, fun z hz => ?_⟩, h2, by show (s.opn ++ [c]).length = _; simp⟩
  · rcases List.mem_append.1 hd with hd | hd
    · exact h.opn d hd
    · rw [List.mem_singleton.1 hd]; exact hc
  · show s.cnt + 1 + leftM (s.met.set c _) ≤ n
    omega
  · show (s.opn ++ [c]).length + leftM (s.met.set c _) ≤ n
    rw [List.length_append]
    simp only [List.length_singleton]
    omega
  · rcases List.mem_or_eq_of_mem_set hz with h5 | h5
    · exact h.big z h5
    · rw [h5]
      have : leftM s.met ≥ 1 := by omega
      show s.cnt + 1 ≤ 9223372036854775807
      omega
theorem meetP_inv {es : List Ent} {n : Nat} (hn : n ≤ 1048576) (hpar : ∀ c, ∀ d ∈ parE es c, d < n) : ∀ (f : Nat) (s : Grp) (c : Nat), GI n s → c < n → s.met.getD c 0 = 0 →
    GI n (meetP es f s c).1 ∧ leftM (meetP es f s c).1.met ≤ leftM s.met ∧ s.opn.length ≤ (meetP es f s c).1.opn.length ∧ (meetP es f s c).2 ≤ doneN
  | 0, s, c, h, _, _ => ⟨h, Nat.le_refl _, Nat.le_refl _, Nat.zero_le _⟩
  | f + 1, s, c, h, hc, h0 => by
    have ih := meetP_inv hn hpar f
    have fold : ∀ (l : List Nat) (t : Grp × Nat), GI n t.1 → t.2 ≤ doneN → (∀ d ∈ l, d < n) → GI n (l.foldl (stepM (meetP es f)) t).1 ∧ leftM (l.foldl (stepM (meetP es f)) t).1.met ≤ leftM t.1.met ∧ t.1.opn.length ≤ (l.foldl (stepM (meetP es f)) t).1.opn.length ∧ (l.foldl (stepM (meetP es f)) t).2 ≤ doneN := by
      intro l
      induction l with
      | nil => intro t ht h2 _; exact ⟨ht, Nat.le_refl _, Nat.le_refl _, h2⟩
      | cons d l ihl =>
        intro t ht h2 hd
        rw [List.foldl_cons]
        have hdn := hd d List.mem_cons_self
        have hd' := fun x hx => hd x (List.mem_cons_of_mem d hx)
        by_cases hz : t.1.met.getD d 0 = 0
        · obtain ⟨i1, i2, i3, i4⟩ := ih t.1 d ht hdn hz
          have e : stepM (meetP es f) t d = ((meetP es f t.1 d).1, min t.2 (meetP es f t.1 d).2) := by unfold stepM; rw [if_pos hz]
          rw [e]
          obtain ⟨j1, j2, j3, j4⟩ := ihl ((meetP es f t.1 d).1, min t.2 (meetP es f t.1 d).2) i1 (Nat.le_trans (Nat.min_le_left _ _) h2) hd'
          exact ⟨j1, Nat.le_trans j2 i2, Nat.le_trans i3 j3, j4⟩
        · have e : stepM (meetP es f) t d = (t.1, min t.2 (t.1.met.getD d 0)) := by unfold stepM; rw [if_neg hz]
          rw [e]
          exact ihl (t.1, min t.2 (t.1.met.getD d 0)) ht (Nat.le_trans (Nat.min_le_left _ _) h2) hd'
    obtain ⟨e1, e2, e3⟩ := h.enter hn hc h0
    have hcb : s.cnt + 1 ≤ doneN := by have := e1.cnt; show s.cnt + 1 ≤ 9223372036854775807; have h5 : (enterG s c).cnt = s.cnt + 1 := rfl; omega
    obtain ⟨f1, f2, f3, f4⟩ := fold (parE es c) (enterG s c, s.cnt + 1) e1 hcb (hpar c)
    dsimp only at f2 f3
    unfold meetP leaveG
    split
    · obtain ⟨g1, g2, g3⟩ := f1.finish s.opn.length (by omega)
      exact ⟨g1, by dsimp only; omega, by dsimp only; omega, f4⟩
    · exact ⟨f1, by omega, by omega, f4⟩
theorem foldM_inv {es : List Ent} {n : Nat} (hn : n ≤ 1048576) (hpar : ∀ c, ∀ d ∈ parE es c, d < n) (f : Nat) : ∀ (l : List Nat) (t : Grp × Nat), GI n t.1 → t.2 ≤ doneN → (∀ d ∈ l, d < n) →
    GI n (l.foldl (stepM (meetP es f)) t).1 ∧ leftM (l.foldl (stepM (meetP es f)) t).1.met ≤ leftM t.1.met ∧ t.1.opn.length ≤ (l.foldl (stepM (meetP es f)) t).1.opn.length ∧ (l.foldl (stepM (meetP es f)) t).2 ≤ doneN := by
  intro l
  induction l with
  | nil => intro t ht h2 _; exact ⟨ht, Nat.le_refl _, Nat.le_refl _, h2⟩
  | cons d l ihl =>
    intro t ht h2 hd
    rw [List.foldl_cons]
    have hdn := hd d List.mem_cons_self
    have hd' := fun x hx => hd x (List.mem_cons_of_mem d hx)
    by_cases hz : t.1.met.getD d 0 = 0
    · obtain ⟨i1, i2, i3, i4⟩ := meetP_inv hn hpar f t.1 d ht hdn hz
      have e : stepM (meetP es f) t d = ((meetP es f t.1 d).1, min t.2 (meetP es f t.1 d).2) := by unfold stepM; rw [if_pos hz]
      rw [e]
      obtain ⟨j1, j2, j3, j4⟩ := ihl ((meetP es f t.1 d).1, min t.2 (meetP es f t.1 d).2) i1 (Nat.le_trans (Nat.min_le_left _ _) h2) hd'
      exact ⟨j1, Nat.le_trans j2 i2, Nat.le_trans i3 j3, j4⟩
    · have e : stepM (meetP es f) t d = (t.1, min t.2 (t.1.met.getD d 0)) := by unfold stepM; rw [if_neg hz]
      rw [e]
      exact ihl (t.1, min t.2 (t.1.met.getD d 0)) ht (Nat.le_trans (Nat.min_le_left _ _) h2) hd'
inductive Up (es : List Ent) : Nat → Nat → Prop
  | refl (x : Nat) : Up es x x
  | step {x d y : Nat} : d ∈ parE es x → Up es d y → Up es x y
theorem Up.trans {es : List Ent} {x y z : Nat} (h : Up es x y) (k : Up es y z) : Up es x z := by
  induction h with
  | refl => exact k
  | step h1 _ ih => exact .step h1 (ih k)
theorem Up.one {es : List Ent} {x d : Nat} (h : d ∈ parE es x) : Up es x d := .step h (.refl _)
def Over (es : List Ent) (x y : Nat) : Prop := ∃ d ∈ parE es x, Up es d y
theorem Up.over {es : List Ent} {x y : Nat} (h : Up es x y) : x = y ∨ Over es x y := by
  cases h with
  | refl => exact .inl rfl
  | step h1 h2 => exact .inr ⟨_, h1, h2⟩
theorem Over.then {es : List Ent} {x y z : Nat} (h : Over es x y) (k : Up es y z) : Over es x z := let ⟨d, h1, h2⟩ := h; ⟨d, h1, h2.trans k⟩
theorem Up.inv {es : List Ent} {P : Nat → Prop} (hP : ∀ x d, P x → d ∈ parE es x → P d) {x y : Nat} (h : Up es x y) (hx : P x) : P y := by
  induction h with
  | refl => exact hx
  | step h1 _ ih => exact ih (hP _ _ hx h1)
abbrev Grp.num (s : Grp) (x : Nat) : Nat := s.met.getD x 0
abbrev Grp.flag (s : Grp) (x : Nat) : Bool := s.loop.getD x false
structure TJ (es : List Ent) (n : Nat) (gs : List Nat) (s : Grp) : Prop where
  gi : GI n s
  llen : s.loop.length = n
  opn : ∀ x, x ∈ s.opn ↔ s.num x ≠ 0 ∧ s.num x ≠ doneN
  le : ∀ x ∈ s.opn, s.num x ≤ s.cnt
  ord : s.opn.Pairwise fun x y => s.num x < s.num y
  closed : ∀ x, s.num x = doneN → ∀ d ∈ parE es x, s.num d = doneN
  black : ∀ x ∈ s.opn, x ∉ gs → ∀ d ∈ parE es x, s.num d ≠ 0
  grey : ∀ x ∈ s.opn, ∃ g ∈ gs, g ∈ s.opn ∧ s.num g ≤ s.num x ∧ Up es x g
  flags : ∀ x, s.num x = doneN → (s.flag x = true ↔ Over es x x)
  gsub : ∀ g ∈ gs, g ∈ s.opn
structure TX (es : List Ent) (c : Nat) (s s' : Grp) : Prop where
  same : ∀ x, s.num x ≠ 0 → s'.num x = s.num x
  tail : ∃ l, s'.opn = s.opn ++ l ∧ ∀ x ∈ l, s.cnt < s'.num x
  cnt : s.cnt ≤ s'.cnt
  from_ : ∀ x, s.num x = 0 → s'.num x ≠ 0 → Up es c x
  left : leftM s'.met ≤ leftM s.met
theorem TX.refl (es : List Ent) (c : Nat) (s : Grp) : TX es c s s := ⟨fun _ _ => rfl, ⟨[], by simp, fun _ h => (by cases h)⟩, Nat.le_refl _, fun x h k => absurd h k, Nat.le_refl _⟩
theorem TX.trans {es : List Ent} {c : Nat} {s s1 s2 : Grp} (h : TX es c s s1) (k : TX es c s1 s2) : TX es c s s2 := by
  obtain ⟨l, hl, hn⟩ := h.tail
  obtain ⟨l', hl', hn'⟩ := k.tail
  refine ⟨fun x hx => by rw [k.same x (by rw [h.same x hx]; exact hx), h.same x hx], ⟨l ++ l', by rw [hl', hl, List.append_assoc], fun x hx => ?_⟩, Nat.le_trans h.cnt k.cnt, fun x h0 h2 => ?_, Nat.le_trans k.left h.left⟩
  · rcases List.mem_append.1 hx with hx | hx
    · have h1 := hn x hx
      rw [k.same x (by omega)]
      exact h1
    · have := hn' x hx
      have := h.cnt
      omega
  · by_cases h1 : s1.num x = 0
    · exact k.from_ x h1 h2
    · exact h.from_ x h0 h1
theorem TX.mono {es : List Ent} {c d : Nat} {s s' : Grp} (h : TX es d s s') (hd : Up es c d) : TX es c s s' := ⟨h.same, h.tail, h.cnt, fun x a b => hd.trans (h.from_ x a b), h.left⟩
theorem TX.mem {es : List Ent} {c : Nat} {s s' : Grp} (h : TX es c s s') {x : Nat} (hx : x ∈ s.opn) : x ∈ s'.opn := by
  obtain ⟨l, hl, _⟩ := h.tail
  rw [hl]
  exact List.mem_append_left _ hx
theorem TX.old {es : List Ent} {c : Nat} {s s' : Grp} (h : TX es c s s') {x : Nat} (hx : x ∈ s'.opn) (hn : s'.num x ≤ s.cnt) : x ∈ s.opn := by
  obtain ⟨l, hl, h2⟩ := h.tail
  rw [hl] at hx
  rcases List.mem_append.1 hx with h1 | h1
  · exact h1
  · have := h2 x h1
    omega
structure TM (es : List Ent) (n : Nat) (gs : List Nat) (c : Nat) (s s' : Grp) (v : Nat) : Prop where
  tj : TJ es n gs s'
  tx : TX es c s s'
  met : s'.num c ≠ 0
  num : c ∈ s'.opn → s'.num c = s.cnt + 1
  low : v = s.cnt + 1 ∨ v < s.cnt + 1 ∧ ∃ y ∈ s.opn, s.num y = v ∧ Up es c y
  edge : ∀ x ∈ s'.opn, s.cnt < s'.num x → ∀ d ∈ parE es x, d ∈ s'.opn → v ≤ s'.num d
  pos : 0 < v
theorem fold_set_getD {α : Type} (z d0 : α) : ∀ (l : List Nat) (m : List α) (x : Nat), x < m.length → (l.foldl (fun m c => m.set c z) m).getD x d0 = if x ∈ l then z else m.getD x d0
  | [], m, x, _ => by simp
  | c :: l, m, x, hx => by
    rw [List.foldl_cons, fold_set_getD z d0 l (m.set c z) x (by simpa using hx)]
    by_cases h1 : x ∈ l
    · rw [if_pos h1, if_pos (List.mem_cons_of_mem c h1)]
    · rw [if_neg h1]
      by_cases h2 : x = c
      · subst h2
        rw [if_pos List.mem_cons_self, List.getD_eq_getElem?_getD, List.getElem?_set_self hx]
        rfl
      · rw [if_neg (fun h => (List.mem_cons.1 h).elim h2 h1), List.getD_eq_getElem?_getD, List.getElem?_set_ne (fun e => h2 e.symm), List.getD_eq_getElem?_getD]
theorem fold_set_len {α : Type} (z : α) : ∀ (l : List Nat) (m : List α), (l.foldl (fun m c => m.set c z) m).length = m.length
  | [], m => rfl
  | c :: l, m => by rw [List.foldl_cons, fold_set_len z l]; simp
theorem num_out {n : Nat} {s : Grp} (h : GI n s) {x : Nat} (hx : n ≤ x) : s.num x = 0 := by
  show s.met.getD x 0 = 0
  rw [List.getD_eq_getElem?_getD, List.getElem?_eq_none (by rw [h.mlen]; exact hx)]
  rfl
theorem gnum_lt {n : Nat} {s : Grp} (h : GI n s) {x : Nat} (hx : s.num x ≠ 0) : x < n := by
  rcases Nat.lt_or_ge x n with h1 | h1
  · exact h1
  · exact absurd (num_out h h1) hx
theorem num_finish {n : Nat} {s : Grp} (h : GI n s) (k x : Nat) (hx : x < n) : (finishG s k).num x = if x ∈ s.opn.drop k then doneN else s.num x :=
  fold_set_getD doneN 0 _ _ x (by rw [h.mlen]; exact hx)
theorem flag_finish {n : Nat} {s : Grp} (h : s.loop.length = n) (k x : Nat) (hx : x < n) : (finishG s k).flag x = if x ∈ s.opn.drop k then decide (1 < (s.opn.drop k).length) else s.flag x :=
  fold_set_getD _ false _ _ x (by rw [h]; exact hx)
theorem enter_num {n : Nat} {s : Grp} (h : GI n s) {c : Nat} (hc : c < n) (x : Nat) : (enterG s c).num x = if x = c then s.cnt + 1 else s.num x := by
  show (s.met.set c (s.cnt + 1)).getD x 0 = _
  rw [List.getD_eq_getElem?_getD]
  split
  · rename_i e
    subst e
    rw [List.getElem?_set_self (by rw [h.mlen]; exact hc)]
    rfl
  · rename_i e
    rw [List.getElem?_set_ne (fun q => e q.symm), ← List.getD_eq_getElem?_getD]
theorem TJ.enter {es : List Ent} {n : Nat} {gs : List Nat} {s : Grp} (h : TJ es n gs s) (hn : n ≤ 1048576) {c : Nat} (hc : c < n) (h0 : s.num c = 0) : TJ es n (c :: gs) (enterG s c) ∧ TX es c s (enterG s c) := by
  have hg := (h.gi.enter hn hc h0).1
  have hnum := enter_num h.gi hc
  have hcn : c ∉ s.opn := fun q => ((h.opn c).1 q).1 h0
  have hcnt := hg.cnt
  have hcb : s.cnt + 1 ≤ 1048576 := by have : (enterG s c).cnt = s.cnt + 1 := rfl; omega
  have hmem : ∀ x, x ∈ (enterG s c).opn ↔ x ∈ s.opn ∨ x = c := fun x => by
    show x ∈ s.opn ++ [c] ↔ _
    simp
  have hold : ∀ x ∈ s.opn, (enterG s c).num x = s.num x := fun x hx => by
    rw [hnum, if_neg (show ¬ x = c from fun e => hcn (e ▸ hx))]
  refine ⟨⟨hg, h.llen, fun x => ?_, fun x hx => ?_, ?_, fun x hx d hd => ?_, fun x hx hx2 d hd => ?_, fun x hx => ?_, fun x hx => ?_, fun g hg => ?_⟩, ⟨fun x hx => ?_, ⟨[c], rfl, fun x hx => ?_⟩, Nat.le_succ _, fun x hx hx2 => ?_, by have := (h.gi.enter hn hc h0).2.1; omega⟩⟩
  · rw [hmem, hnum]
    by_cases e : x = c
    · subst e
      rw [if_pos rfl]
      constructor
      · intro _; exact ⟨by omega, by show s.cnt + 1 ≠ 9223372036854775807; omega⟩
      · intro _; exact .inr rfl
    · rw [if_neg e, ← h.opn x]
      exact ⟨fun q => q.resolve_right e, .inl⟩
  · show (enterG s c).num x ≤ s.cnt + 1
    rcases (hmem x).1 hx with h1 | h1
    · rw [hold x h1]; have := h.le x h1; omega
    · subst h1; rw [hnum, if_pos rfl]; exact Nat.le_refl _
  · show (s.opn ++ [c]).Pairwise _
    rw [List.pairwise_append]
    refine ⟨?_, List.pairwise_singleton _ _, fun x hx y hy => ?_⟩
    · refine h.ord.imp_of_mem (fun hx hy hlt => ?_)
      rw [hold _ hx, hold _ hy]
      exact hlt
    · rw [List.mem_singleton.1 hy, hold x hx, hnum, if_pos rfl]
      have := h.le x hx
      omega
  · rw [hnum] at hx ⊢
    by_cases e : x = c
    · rw [if_pos e] at hx
      exfalso
      have : doneN = 9223372036854775807 := rfl
      omega
    · rw [if_neg e] at hx
      have := h.closed x hx d hd
      rw [if_neg (fun q => ?_)]
      · exact this
      · subst q
        rw [this] at h0
        cases h0
  · have hxo : x ∈ s.opn := ((hmem x).1 hx).resolve_right (fun e => hx2 (e ▸ List.mem_cons_self))
    have := h.black x hxo (fun q => hx2 (List.mem_cons_of_mem c q)) d hd
    rw [hnum]
    split
    · omega
    · exact this
  · rcases (hmem x).1 hx with h1 | h1
    · obtain ⟨g, hg1, hg2, hg3, hg4⟩ := h.grey x h1
      exact ⟨g, List.mem_cons_of_mem c hg1, (hmem g).2 (.inl hg2), by rw [hold g hg2, hold x h1]; exact hg3, hg4⟩
    · subst h1
      exact ⟨x, List.mem_cons_self, hx, Nat.le_refl _, .refl _⟩
  · have hx' : s.num x = doneN := by
      rw [hnum] at hx
      by_cases e : x = c
      · rw [if_pos e] at hx
        exfalso
        have : doneN = 9223372036854775807 := rfl
        omega
      · rw [if_neg e] at hx; exact hx
    exact h.flags x hx'
  · rcases List.mem_cons.1 hg with e | e
    · exact (hmem g).2 (.inr e)
    · exact (hmem g).2 (.inl (h.gsub g e))
  · rw [hnum, if_neg (show ¬ x = c from fun e => hx (e ▸ h0))]
  · rw [List.mem_singleton.1 hx, hnum, if_pos rfl]
    exact Nat.lt_succ_self _
  · rw [hnum] at hx2
    by_cases e : x = c
    · subst e; exact .refl _
    · rw [if_neg e] at hx2
      exact absurd hx hx2
structure TF (es : List Ent) (n : Nat) (gs : List Nat) (c : Nat) (s : Grp) (ds : List Nat) (t : Grp × Nat) : Prop where
  tj : TJ es n (c :: gs) t.1
  tx : TX es c (enterG s c) t.1
  low : t.2 = s.cnt + 1 ∨ t.2 < s.cnt + 1 ∧ ∃ y ∈ s.opn, s.num y = t.2 ∧ Up es c y
  edge : ∀ x ∈ t.1.opn, s.cnt + 1 < t.1.num x → ∀ d ∈ parE es x, d ∈ t.1.opn → t.2 ≤ t.1.num d
  own : ∀ d ∈ ds, t.1.num d ≠ 0 ∧ (d ∈ t.1.opn → t.2 ≤ t.1.num d)
  pos : 0 < t.2
theorem TF.step {es : List Ent} {n : Nat} {gs : List Nat} {c : Nat} {s : Grp} {ds : List Nat} {t : Grp × Nat} (m : Grp → Nat → Grp × Nat) (h0 : TJ es n gs s) (hn : n ≤ 1048576) (hc : c < n) (hw : s.num c = 0) (h : TF es n gs c s ds t) {d : Nat} (hd : d ∈ parE es c)
    (hm : t.1.num d = 0 → TM es n (c :: gs) d t.1 (m t.1 d).1 (m t.1 d).2) : TF es n gs c s (ds ++ [d]) (stepM m t d) := by
  have hnum := enter_num h0.gi hc
  have hcn : c ∉ s.opn := fun q => ((h0.opn c).1 q).1 hw
  have hold : ∀ x ∈ s.opn, (enterG s c).num x = s.num x := fun x hx => by
    rw [hnum, if_neg (show ¬ x = c from fun e => hcn (e ▸ hx))]
  have hnz : ∀ x ∈ s.opn, s.num x ≠ 0 := fun x hx => ((h0.opn x).1 hx).1
  have hcnt0 : (enterG s c).cnt = s.cnt + 1 := rfl
  have hc0 := h.tx.cnt
  unfold stepM
  by_cases hz : t.1.met.getD d 0 = 0
  · rw [if_pos hz]
    obtain ⟨j1, j2, j3, j4, j5, j6, j7⟩ := hm hz
    refine ⟨j1, h.tx.trans (j2.mono (.one hd)), ?_, fun x hx hnx e he heo => ?_, fun e he => ?_, ?_⟩
    · dsimp only
      rcases j5 with e | ⟨e1, y, y1, y2, y3⟩
      · have hmin : min t.2 (m t.1 d).2 = t.2 := by
          rcases h.low with q | ⟨q, _⟩ <;> omega
        rw [hmin]
        exact h.low
      · by_cases hle : t.2 ≤ (m t.1 d).2
        · rw [Nat.min_eq_left hle]; exact h.low
        · rw [Nat.min_eq_right (by omega)]
          rcases h.low with q | ⟨q, _⟩
          · have hy : y ∈ (enterG s c).opn := h.tx.old y1 (by rw [hcnt0]; omega)
            have hy' : y ∈ s.opn := by
              rcases List.mem_append.1 (show y ∈ s.opn ++ [c] from hy) with q1 | q1
              · exact q1
              · exfalso
                rw [List.mem_singleton.1 q1] at y2
                have h1 := h.tx.same c (by rw [hnum, if_pos rfl]; omega)
                rw [hnum, if_pos rfl] at h1
                omega
            refine .inr ⟨by omega, y, hy', ?_, (Up.one hd).trans y3⟩
            rw [← y2, h.tx.same y (by rw [hold y hy']; exact hnz y hy'), hold y hy']
          · have hy : y ∈ (enterG s c).opn := h.tx.old y1 (by rw [hcnt0]; omega)
            have hy' : y ∈ s.opn := by
              rcases List.mem_append.1 (show y ∈ s.opn ++ [c] from hy) with q1 | q1
              · exact q1
              · exfalso
                rw [List.mem_singleton.1 q1] at y2
                have h1 := h.tx.same c (by rw [hnum, if_pos rfl]; omega)
                rw [hnum, if_pos rfl] at h1
                omega
            refine .inr ⟨by omega, y, hy', ?_, (Up.one hd).trans y3⟩
            rw [← y2, h.tx.same y (by rw [hold y hy']; exact hnz y hy'), hold y hy']
    · dsimp only at hx hnx heo ⊢
      by_cases hnew : t.1.cnt < (m t.1 d).1.num x
      · have := j6 x hx hnew e he heo
        omega
      · have hxo := j2.old hx (by omega)
        have hx1 := (((h.tj.opn x).1 hxo).1)
        have hxs := j2.same x hx1
        have hb : e ∈ t.1.opn := by
          have hxc : x ∉ gs ∨ True := .inr trivial
          have hne : t.1.num e ≠ 0 := by
            refine h.tj.black x hxo (fun q => ?_) e he
            rcases List.mem_cons.1 q with q | q
            · have h1 := h.tx.same c (by rw [hnum, if_pos rfl]; omega)
              rw [hnum, if_pos rfl, ← q] at h1
              omega
            · have h2 := h0.gsub x q
              have h1 := h.tx.same x (by rw [hold x h2]; exact hnz x h2)
              rw [hold x h2] at h1
              have := h0.le x h2
              omega
          rw [h.tj.opn]
          refine ⟨hne, ?_⟩
          rw [← j2.same e hne]
          exact ((j1.opn e).1 heo).2
        have h1 := h.edge x hxo (by rw [← hxs]; exact hnx) e he hb
        rw [j2.same e ((h.tj.opn e).1 hb).1]
        omega
    · dsimp only
      rcases List.mem_append.1 he with he | he
      · obtain ⟨o1, o2⟩ := h.own e he
        have hs := j2.same e o1
        refine ⟨by rw [hs]; exact o1, fun q => ?_⟩
        have h1 := o2 (by rw [h.tj.opn]; refine ⟨o1, ?_⟩; rw [← hs]; exact ((j1.opn e).1 q).2)
        rw [hs]
        omega
      · rw [List.mem_singleton.1 he]
        refine ⟨j3, fun q => ?_⟩
        have h1 := j4 q
        rcases j5 with e1 | ⟨e1, _⟩ <;> omega
    · dsimp only
      have := h.pos
      omega
  · rw [if_neg hz]
    have hlow : min t.2 (t.1.num d) = s.cnt + 1 ∨ min t.2 (t.1.num d) < s.cnt + 1 ∧ ∃ y ∈ s.opn, s.num y = min t.2 (t.1.num d) ∧ Up es c y := by
      by_cases hle : t.2 ≤ t.1.num d
      · rw [Nat.min_eq_left hle]; exact h.low
      · have ht2 : t.2 ≤ s.cnt + 1 := by rcases h.low with q | ⟨q, _⟩ <;> omega
        have hd1 : d ∈ t.1.opn := (h.tj.opn d).2 ⟨hz, by have h4 : doneN = 9223372036854775807 := rfl; have h5 := h.tj.gi.cnt; rw [hcnt0] at hc0; omega⟩
        have hy : d ∈ (enterG s c).opn := h.tx.old hd1 (by rw [hcnt0]; omega)
        have hy' : d ∈ s.opn := by
          rcases List.mem_append.1 (show d ∈ s.opn ++ [c] from hy) with q1 | q1
          · exact q1
          · exfalso
            have q2 := List.mem_singleton.1 q1
            have h1 := h.tx.same c (by rw [hnum, if_pos rfl]; omega)
            rw [hnum, if_pos rfl] at h1
            rw [q2] at hle
            omega
        rw [Nat.min_eq_right (by omega)]
        refine .inr ⟨by omega, d, hy', ?_, .one hd⟩
        rw [h.tx.same d (by rw [hold d hy']; exact hnz d hy'), hold d hy']
    refine ⟨h.tj, h.tx, hlow, fun x hx hnx e he heo => ?_, fun e he => ?_, ?_⟩
    · have := h.edge x hx hnx e he heo
      dsimp only
      omega
    · dsimp only
      rcases List.mem_append.1 he with he | he
      · obtain ⟨o1, o2⟩ := h.own e he
        refine ⟨o1, fun q => ?_⟩
        have := o2 q
        omega
      · rw [List.mem_singleton.1 he]
        exact ⟨hz, fun _ => Nat.min_le_right _ _⟩
    · have h1 := h.pos
      dsimp only
      omega

theorem TF.leave {es : List Ent} {n : Nat} {gs : List Nat} {c : Nat} {s : Grp} {t : Grp × Nat} (h0 : TJ es n gs s) (hn : n ≤ 1048576) (hc : c < n) (hw : s.num c = 0) (hself : c ∉ parE es c) (h : TF es n gs c s (parE es c) t) : TM es n gs c s (leaveG s t).1 (leaveG s t).2 := by
  have hnum := enter_num h0.gi hc
  have hcn : c ∉ s.opn := fun q => ((h0.opn c).1 q).1 hw
  have tx : TX es c s t.1 := (h0.enter hn hc hw).2.trans h.tx
  have hnz : ∀ x ∈ s.opn, s.num x ≠ 0 := fun x hx => ((h0.opn x).1 hx).1
  have hsame : ∀ x ∈ s.opn, t.1.num x = s.num x := fun x hx => tx.same x (hnz x hx)
  have hcc : t.1.num c = s.cnt + 1 := by
    have h1 := h.tx.same c (by rw [hnum, if_pos rfl]; omega)
    rw [hnum, if_pos rfl] at h1
    exact h1
  obtain ⟨l, hl, hl2⟩ := h.tx.tail
  have hl0 : t.1.opn = s.opn ++ (c :: l) := by
    rw [hl]
    show (s.opn ++ [c]) ++ l = _
    simp
  have hl3 : ∀ x ∈ l, s.cnt + 1 < t.1.num x := hl2
  have hGn : ∀ x ∈ c :: l, s.cnt + 1 ≤ t.1.num x := fun x hx => by
    rcases List.mem_cons.1 hx with e | e
    · rw [e, hcc]; exact Nat.le_refl _
    · have := hl3 x e; omega
  have hGo : ∀ x ∈ c :: l, x ∈ t.1.opn := fun x hx => by rw [hl0]; exact List.mem_append_right _ hx
  have hGi : ∀ x ∈ t.1.opn, s.cnt < t.1.num x → x ∈ c :: l := fun x hx hlt => by
    rw [hl0] at hx
    rcases List.mem_append.1 hx with q | q
    · have := hsame x q
      have := h0.le x q
      omega
    · exact q
  have hco : c ∈ t.1.opn := hGo c List.mem_cons_self
  unfold leaveG
  by_cases hv : t.2 = s.cnt + 1
  · rw [if_pos hv]
    have hdrop : t.1.opn.drop s.opn.length = c :: l := by rw [hl0]; simp
    have htake : t.1.opn.take s.opn.length = s.opn := by rw [hl0]; simp
    have hGs : ∀ x ∈ c :: l, x ∉ s.opn := fun x hx q => by
      have h1 := hGn x hx
      have h2 := hsame x q
      have h3 := h0.le x q
      omega
    have F1 : ∀ x ∈ c :: l, Up es c x := fun x hx => by
      rcases List.mem_cons.1 hx with e | e
      · rw [e]; exact .refl _
      · by_cases hz : s.num x = 0
        · exact tx.from_ x hz (by have := hl3 x e; omega)
        · exfalso
          have h1 := tx.same x hz
          have h2 := (h.tj.opn x).1 (hGo x hx)
          exact hGs x hx ((h0.opn x).2 ⟨hz, by rw [← h1]; exact h2.2⟩)
    have F2 : ∀ x ∈ c :: l, ∀ d ∈ parE es x, d ∈ c :: l ∨ t.1.num d = doneN := fun x hx d hd => by
      have hnd : t.1.num d ≠ 0 ∧ (d ∈ t.1.opn → t.2 ≤ t.1.num d) := by
        rcases List.mem_cons.1 hx with e | e
        · rw [e] at hd; exact h.own d hd
        · have hlt := hl3 x e
          refine ⟨h.tj.black x (hGo x hx) (fun q => ?_) d hd, fun q => h.edge x (hGo x hx) hlt d hd q⟩
          rcases List.mem_cons.1 q with q | q
          · rw [q] at hlt; omega
          · have h2 := h0.gsub x q
            have := hsame x h2
            have := h0.le x h2
            omega
      by_cases hd2 : t.1.num d = doneN
      · exact .inr hd2
      · have hdo := (h.tj.opn d).2 ⟨hnd.1, hd2⟩
        exact .inl (hGi d hdo (by have := hnd.2 hdo; omega))
    have FP : ∀ x d, (x ∈ c :: l ∨ t.1.num x = doneN) → d ∈ parE es x → (d ∈ c :: l ∨ t.1.num d = doneN) := fun x d hx hd => by
      rcases hx with hx | hx
      · exact F2 x hx d hd
      · exact .inr (h.tj.closed x hx d hd)
    have F3 : ∀ x ∈ c :: l, Up es x c := fun x hx => by
      obtain ⟨g, g1, g2, g3, g4⟩ := h.tj.grey x (hGo x hx)
      have h1 := g4.inv FP (.inl hx)
      rcases List.mem_cons.1 g1 with e | e
      · rw [← e]; exact g4
      · exfalso
        have hgo := h0.gsub g e
        rcases h1 with h1 | h1
        · exact hGs g h1 hgo
        · exact ((h.tj.opn g).1 g2).2 h1
    have gi' := h.tj.gi.finish s.opn.length (by rw [hl0]; simp)
    have hlt : ∀ x ∈ c :: l, x < n := fun x hx => h.tj.gi.opn x (hGo x hx)
    have num' : ∀ x, (finishG t.1 s.opn.length).num x = if x ∈ c :: l then doneN else t.1.num x := fun x => by
      rcases Nat.lt_or_ge x n with hx | hx
      · rw [num_finish h.tj.gi _ x hx, hdrop]
      · rw [num_out gi'.1 hx, if_neg (fun q => by have := hlt x q; omega), num_out h.tj.gi hx]
    have hopn' : (finishG t.1 s.opn.length).opn = s.opn := htake
    have nold : ∀ x ∈ s.opn, (finishG t.1 s.opn.length).num x = s.num x := fun x hx => by
      rw [num', if_neg (fun q => hGs x q hx), hsame x hx]
    have hndone : ∀ x, t.1.num x = doneN → (finishG t.1 s.opn.length).num x = doneN := fun x hx => by
      rw [num']
      split
      · rfl
      · exact hx
    refine ⟨⟨gi'.1, ?_, fun x => ?_, fun x hx => ?_, ?_, fun x hx d hd => ?_, fun x hx hx2 d hd => ?_, fun x hx => ?_, fun x hx => ?_, fun g hg => ?_⟩, ⟨fun x hx => ?_, ⟨[], by dsimp only; rw [hopn']; simp, fun x hx => (by cases hx)⟩, tx.cnt, fun x hx hx2 => ?_, Nat.le_trans gi'.2.1 tx.left⟩, ?_, fun q => ?_, .inl hv, fun x hx hx2 => ?_, h.pos⟩
    · exact (fold_set_len _ _ _).trans h.tj.llen
    · dsimp only
      rw [hopn']
      constructor
      · intro q
        rw [nold x q]
        exact (h0.opn x).1 q
      · rintro ⟨q1, q2⟩
        rw [num'] at q1 q2
        by_cases hx : x ∈ c :: l
        · rw [if_pos hx] at q2; exact absurd rfl q2
        · rw [if_neg hx] at q1 q2
          have := (h.tj.opn x).2 ⟨q1, q2⟩
          rw [hl0] at this
          exact (List.mem_append.1 this).resolve_right hx
    · dsimp only at hx ⊢
      rw [hopn'] at hx
      rw [nold x hx]
      exact Nat.le_trans (h0.le x hx) tx.cnt
    · dsimp only
      rw [hopn']
      refine h0.ord.imp_of_mem (fun hx hy hq => ?_)
      rw [nold _ hx, nold _ hy]
      exact hq
    · dsimp only at hx ⊢
      by_cases hxG : x ∈ c :: l
      · rcases F2 x hxG d hd with q | q
        · rw [num', if_pos q]
        · exact hndone d q
      · rw [num', if_neg hxG] at hx
        exact hndone d (h.tj.closed x hx d hd)
    · dsimp only at hx ⊢
      rw [hopn'] at hx
      have h1 := h0.black x hx hx2 d hd
      rw [num']
      split
      · decide
      · rw [tx.same d h1]; exact h1
    · dsimp only at hx ⊢
      rw [hopn'] at hx ⊢
      obtain ⟨g, g1, g2, g3, g4⟩ := h0.grey x hx
      exact ⟨g, g1, g2, by rw [nold g g2, nold x hx]; exact g3, g4⟩
    · dsimp only at hx ⊢
      have hxn : x < n := gnum_lt gi'.1 (by rw [hx]; decide)
      rw [flag_finish h.tj.llen _ x hxn, hdrop]
      by_cases hxG : x ∈ c :: l
      · rw [if_pos hxG]
        constructor
        · intro q
          have q1 : 1 < (c :: l).length := of_decide_eq_true q
          have hord := h.tj.ord
          rw [hl0, List.pairwise_append] at hord
          have hnod : ∀ y ∈ l, y ≠ c := fun y hy e => by have := hl3 y hy; rw [e] at this; omega
          obtain ⟨y, hy, hyx⟩ : ∃ y ∈ c :: l, y ≠ x := by
            by_cases e : x = c
            · cases l with
              | nil => simp at q1
              | cons z l => exact ⟨z, by simp, fun q => hnod z (by simp) (q.trans e)⟩
            · exact ⟨c, List.mem_cons_self, fun q => e q.symm⟩
          have u1 : Up es x y := (F3 x hxG).trans (F1 y hy)
          have u2 : Up es y x := (F3 y hy).trans (F1 x hxG)
          rcases u1.over with e | e
          · exact absurd e.symm hyx
          · exact e.then u2
        · intro q
          refine decide_eq_true ?_
          cases l with
          | cons z l => simp
          | nil =>
            exfalso
            have e : x = c := by simpa using hxG
            subst e
            obtain ⟨d, hd, hu⟩ := q
            rcases F2 x hxG d hd with q1 | q1
            · have e2 : d = x := by simpa using q1
              exact hself (e2 ▸ hd)
            · have h1 : t.1.num x = doneN := hu.inv (P := fun y => t.1.num y = doneN) (fun a b ha hb => h.tj.closed a ha b hb) q1
              exact ((h.tj.opn x).1 hco).2 h1
      · rw [if_neg hxG]
        rw [num', if_neg hxG] at hx
        exact h.tj.flags x hx
    · dsimp only
      rw [hopn']
      exact h0.gsub g hg
    · dsimp only
      have h1 := tx.same x hx
      rw [num', if_neg (fun q => ?_), h1]
      by_cases hd : s.num x = doneN
      · rw [hd] at h1
        exact ((h.tj.opn x).1 (hGo x q)).2 h1
      · exact hGs x q ((h0.opn x).2 ⟨hx, hd⟩)
    · dsimp only at hx2
      rw [num'] at hx2
      by_cases hxG : x ∈ c :: l
      · exact F1 x hxG
      · rw [if_neg hxG] at hx2
        exact tx.from_ x hx hx2
    · dsimp only
      rw [num', if_pos List.mem_cons_self]
      decide
    · dsimp only at q
      rw [hopn'] at q
      exact absurd q hcn
    · dsimp only at hx hx2
      rw [hopn'] at hx
      rw [nold x hx] at hx2
      have := h0.le x hx
      omega
  · rw [if_neg hv]
    obtain ⟨hv1, y, hy, hy2, hy3⟩ := h.low.resolve_left hv
    refine ⟨⟨h.tj.gi, h.tj.llen, h.tj.opn, h.tj.le, h.tj.ord, h.tj.closed, fun x hx hx2 d hd => ?_, fun x hx => ?_, h.tj.flags, fun g hg => tx.mem (h0.gsub g hg)⟩, tx, by rw [hcc]; omega, fun _ => hcc, .inr ⟨hv1, y, hy, hy2, hy3⟩, fun x hx hx2 d hd hdo => ?_, h.pos⟩
    · by_cases e : x = c
      · rw [e] at hd; exact (h.own d hd).1
      · exact h.tj.black x hx (fun q => (List.mem_cons.1 q).elim e hx2) d hd
    · obtain ⟨g, g1, g2, g3, g4⟩ := h.tj.grey x hx
      rcases List.mem_cons.1 g1 with e | e
      · subst e
        obtain ⟨g', k1, k2, k3, k4⟩ := h0.grey y hy
        refine ⟨g', k1, tx.mem k2, ?_, g4.trans (hy3.trans k4)⟩
        rw [hsame g' k2]
        omega
      · exact ⟨g, e, g2, g3, g4⟩
    · by_cases hlt : s.cnt + 1 < t.1.num x
      · exact h.edge x hx hlt d hd hdo
      · have hxG := hGi x hx hx2
        have e : x = c := by
          rcases List.mem_cons.1 hxG with e | e
          · exact e
          · have := hl3 x e; omega
        rw [e] at hd
        exact (h.own d hd).2 hdo
theorem meetP_tj {es : List Ent} {n : Nat} (hn : n ≤ 1048576) (hpar : ∀ c, ∀ d ∈ parE es c, d < n) (hself : ∀ c, c ∉ parE es c) : ∀ (f : Nat) (gs : List Nat) (s : Grp) (c : Nat), TJ es n gs s → c < n → s.num c = 0 → leftM s.met ≤ f → TM es n gs c s (meetP es f s c).1 (meetP es f s c).2
  | 0, gs, s, c, h, hc, hw, hf => absurd hw (leftM_none (by rw [h.gi.mlen]; exact hc) (by omega))
  | f + 1, gs, s, c, h, hc, hw, hf => by
    have ih := meetP_tj hn hpar hself f
    obtain ⟨e1, e2⟩ := h.enter hn hc hw
    have hle := (h.gi.enter hn hc hw).2.1
    have fold : ∀ (l ds : List Nat) (t : Grp × Nat), (∀ d ∈ l, d ∈ parE es c) → TF es n gs c s ds t → TF es n gs c s (ds ++ l) (l.foldl (stepM (meetP es f)) t) := by
      intro l
      induction l with
      | nil => intro ds t _ ht; rw [List.append_nil]; exact ht
      | cons d l ihl =>
        intro ds t hd ht
        rw [List.foldl_cons, show ds ++ d :: l = (ds ++ [d]) ++ l by simp]
        refine ihl _ _ (fun x hx => hd x (List.mem_cons_of_mem d hx)) (ht.step (meetP es f) h hn hc hw (hd d List.mem_cons_self) (fun hz => ?_))
        refine ih (c :: gs) t.1 d ht.tj (hpar c d (hd d List.mem_cons_self)) hz ?_
        have := ht.tx.left
        omega
    have start : TF es n gs c s [] (enterG s c, s.cnt + 1) := by
      refine ⟨e1, .refl _ _ _, .inl rfl, fun x hx hlt => ?_, fun d hd => (by cases hd), Nat.succ_pos _⟩
      have := e1.le x hx
      have h2 : (enterG s c).cnt = s.cnt + 1 := rfl
      dsimp only at hlt
      omega
    have h1 := fold (parE es c) [] _ (fun _ q => q) start
    rw [List.nil_append] at h1
    exact h1.leave h hn hc hw (hself c)
theorem loopedP_tj {es : List Ent} {n : Nat} (hn : n ≤ 1048576) (hpar : ∀ c, ∀ d ∈ parE es c, d < n) (hself : ∀ c, c ∉ parE es c) : ∀ k, k ≤ n →
    TJ es n [] ((List.range k).foldl (fun s c => if s.met.getD c 0 = 0 then (meetP es n s c).1 else s) ⟨List.replicate n 0, 0, [], List.replicate n false⟩) ∧ ∀ x, x < k → ((List.range k).foldl (fun s c => if s.met.getD c 0 = 0 then (meetP es n s c).1 else s) ⟨List.replicate n 0, 0, [], List.replicate n false⟩ : Grp).num x ≠ 0 := by
  intro k
  induction k with
  | zero =>
    intro _
    have hz : ∀ x, (List.replicate n 0).getD x 0 = 0 := fun x => by
      rw [List.getD_eq_getElem?_getD, List.getElem?_replicate]
      split <;> rfl
    refine ⟨⟨⟨by simp, fun c hc => (by cases hc), ?_, ?_, fun z hz => ?_⟩, by simp, fun x => ?_, fun x hx => (by cases hx), .nil, fun x hx => ?_, fun x hx => (by cases hx), fun x hx => (by cases hx), fun x hx => ?_, fun g hg => (by cases hg)⟩, fun x hx => absurd hx (Nat.not_lt_zero _)⟩
    · have := leftM_len (List.replicate n 0)
      rw [List.length_replicate] at this
      show 0 + leftM (List.replicate n 0) ≤ n
      omega
    · have := leftM_len (List.replicate n 0)
      rw [List.length_replicate] at this
      show 0 + leftM (List.replicate n 0) ≤ n
      omega
    · rw [(List.mem_replicate.1 hz).2]; exact Nat.zero_le _
    · constructor
      · intro q; cases q
      · rintro ⟨q, _⟩; exact absurd (hz x) q
    · rw [show Grp.num _ x = 0 from hz x] at hx; cases hx
    · rw [show Grp.num _ x = 0 from hz x] at hx; cases hx
  | succ k ih =>
    intro hk
    obtain ⟨h1, h2⟩ := ih (by omega)
    rw [List.range_succ, List.foldl_append, List.foldl_cons, List.foldl_nil]
    generalize (List.range k).foldl (fun s c => if s.met.getD c 0 = 0 then (meetP es n s c).1 else s) ⟨List.replicate n 0, 0, [], List.replicate n false⟩ = s at h1 h2 ⊢
    by_cases hz : s.met.getD k 0 = 0
    · rw [if_pos hz]
      have h3 := meetP_tj hn hpar hself n [] s k h1 (by omega) hz (by have := leftM_len s.met; rw [h1.gi.mlen] at this; exact this)
      refine ⟨h3.tj, fun x hx => ?_⟩
      by_cases e : x = k
      · rw [e]; exact h3.met
      · have := h2 x (by omega)
        rw [h3.tx.same x this]
        exact this
    · rw [if_neg hz]
      refine ⟨h1, fun x hx => ?_⟩
      by_cases e : x = k
      · rw [e]; exact hz
      · exact h2 x (by omega)
theorem loopedP_flag {es : List Ent} {n : Nat} (hn : n ≤ 1048576) (hpar : ∀ c, ∀ d ∈ parE es c, d < n) (hself : ∀ c, c ∉ parE es c) : (loopedP es n).loop.length = n ∧ ∀ x, x < n → ((loopedP es n).loop.getD x false = true ↔ Over es x x) := by
  obtain ⟨h1, h2⟩ := loopedP_tj hn hpar hself n (Nat.le_refl _)
  refine ⟨h1.llen, fun x hx => h1.flags x ?_⟩
  rcases Nat.lt_or_ge 0 0 with q | _
  · omega
  · by_cases hd : Grp.num (loopedP es n) x = doneN
    · exact hd
    · exfalso
      have ho := (h1.opn x).2 ⟨h2 x hx, hd⟩
      obtain ⟨g, hg, _⟩ := h1.grey x ho
      cases hg
def Acyc (es : List Ent) : Prop := ∀ x, ¬ Over es x x
def ParIn (es : List Ent) : Prop := ∀ c, ∀ d ∈ parE es c, d < es.length
theorem full_out {n : Nat} {V : List Nat} (hn : V.Nodup) (hb : ∀ v ∈ V, v < n) (hl : n ≤ V.length) {i : Nat} (hi : i < n) : i ∈ V := by
  refine Decidable.byContradiction fun h => ?_
  have h1 := nodup_len n (i :: V) (List.nodup_cons.2 ⟨h, hn⟩) (fun x hx => by
    rcases List.mem_cons.1 hx with e | e
    · exact e ▸ hi
    · exact hb x e)
  rw [List.length_cons] at h1
  omega
theorem lineF_none (es : List Ent) (f : Nat) : lineF es f none = [] := by cases f <;> rfl
theorem mem_par_up {es : List Ent} {i j : Nat} {e : Ent} (he : es[i]? = some e) (hj : e.up = some j) : j ∈ parE es i := by
  rw [parE_eq he]
  unfold Ent.par
  rw [hj]
  simp
theorem mem_par_lk {es : List Ent} {i j : Nat} {e : Ent} (he : es[i]? = some e) (hj : j ∈ e.lk) : j ∈ parE es i := by
  rw [parE_eq he]
  unfold Ent.par
  exact List.mem_append_right _ hj
theorem Over.snoc {es : List Ent} {x y d : Nat} (h : Over es x y) (hd : d ∈ parE es y) : Over es x d := h.then (.one hd)
theorem Over.one {es : List Ent} {x d : Nat} (hd : d ∈ parE es x) : Over es x d := ⟨d, hd, .refl _⟩
theorem chain_acyc {es : List Ent} (ha : Acyc es) (hp : ParIn es) : ∀ (f : Nat) (V : List Nat) (i : Nat), (∀ v ∈ V, Over es v i) → V.Nodup → (∀ v ∈ V, v < es.length) → es.length ≤ V.length + f → i < es.length → Chain es (lineF es f (some i)) (some i)
  | 0, V, i, h1, h2, h3, h4, h5 => absurd (h1 i (full_out h2 h3 (by omega) h5)) (ha i)
  | f + 1, V, i, h1, h2, h3, h4, h5 => by
    obtain ⟨e, he⟩ : ∃ e, es[i]? = some e := ⟨_, List.getElem?_eq_getElem h5⟩
    have hl : lineF es (f + 1) (some i) = i :: lineF es f e.up := by
      show (match es[i]? with | some e => i :: lineF es f e.up | none => []) = _
      rw [he]
    rw [hl]
    refine ⟨rfl, e, he, ?_⟩
    cases hu : e.up with
    | none => rw [lineF_none]; exact rfl
    | some j =>
      have hj := mem_par_up he hu
      refine chain_acyc ha hp f (i :: V) j (fun v hv => ?_) (List.nodup_cons.2 ⟨fun q => ha i (h1 i q), h2⟩) (fun v hv => ?_) (by rw [List.length_cons]; omega) (hp i j hj)
      · rcases List.mem_cons.1 hv with q | q
        · rw [q]; exact .one hj
        · exact (h1 v q).snoc hj
      · rcases List.mem_cons.1 hv with q | q
        · rw [q]; exact h5
        · exact h3 v q
theorem deep_acyc {es : List Ent} (ha : Acyc es) (hp : ParIn es) : ∀ (f : Nat) (V l : List Nat), (∀ v ∈ V, ∀ d ∈ l, Over es v d) → V.Nodup → (∀ v ∈ V, v < es.length) → es.length ≤ V.length + f → (∀ d ∈ l, d < es.length) → Deep es f l
  | 0, V, l, h1, h2, h3, h4, h5 => by
    cases l with
    | nil => exact rfl
    | cons d l => exact absurd (h1 d (full_out h2 h3 (by omega) (h5 d List.mem_cons_self)) d List.mem_cons_self) (ha d)
  | f + 1, V, l, h1, h2, h3, h4, h5 => fun d hd => by
    have hdl := h5 d hd
    obtain ⟨e, he⟩ : ∃ e, es[d]? = some e := ⟨_, List.getElem?_eq_getElem hdl⟩
    refine ⟨e, he, deep_acyc ha hp f (d :: V) e.lk (fun v hv x hx => ?_) (List.nodup_cons.2 ⟨fun q => ha d (h1 d q d hd), h2⟩) (fun v hv => ?_) (by rw [List.length_cons]; omega) (fun x hx => hp d x (mem_par_lk he hx))⟩
    · rcases List.mem_cons.1 hv with q | q
      · rw [q]; exact .one (mem_par_lk he hx)
      · exact (h1 v q d hd).snoc (mem_par_lk he hx)
    · rcases List.mem_cons.1 hv with q | q
      · rw [q]; exact hdl
      · exact h3 v q
theorem Acyc.shape {es : List Ent} (ha : Acyc es) (hp : ParIn es) (h1 : es.length ≤ 1048576) (h2 : ∀ (i : Nat) (e : Ent), es[i]? = some e → e.lk.length ≤ 9223372036854775807) (h3 : ∀ (i : Nat) (e : Ent), es[i]? = some e → e.cls.flds.length ≤ 32) (h4 : ∀ (i : Nat) (e : Ent), es[i]? = some e → e.cls.name.length ≤ 32) : Shape es :=
  ⟨h1, h2, h3, h4, fun i hi => chain_acyc ha hp es.length [] i (fun v hv => by cases hv) .nil (fun v hv => by cases hv) (by simp) hi,
    fun i e he => deep_acyc ha hp es.length [] e.lk (fun v hv => by cases hv) .nil (fun v hv => by cases hv) (by simp) (fun d hd => hp i d (mem_par_lk he hd))⟩
end Go.Proofs.YtpincofjopmaaaaGreatDoor
