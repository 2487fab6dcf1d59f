/-
  What is alike itself; the class that is nothing.
  Conditions: none.
  Methods that may be are signed alike just if their kinds are the same.
  Conditions: the methods may be.
-/
import Derived.Test.YtpincofjopmaaaaGreatDoorM37
import Derived.Test.YtpincofjopmaaaaGreatDoorM48
import Derived.Test.YtpincofjopmaaaaGreatDoorM40
import Derived.Test.YtpincofjopmaaaaGreatDoorM32
import Derived.Test.YtpincofjopmaaaaGreatDoorM15
namespace Go.Proofs.YtpincofjopmaaaaGreatDoor
open Go.RowKit
theorem samB_refl {α : Type} {p : α → α → Bool} (h : ∀ x, p x x = true) (l : List α) : samB p l l = true := by
  unfold samB
  rw [decide_eq_true rfl, Bool.true_and]
  induction l with
  | nil => rfl
  | cons x r ih => rw [List.zip_cons_cons, List.all_cons, h x, ih]; rfl
theorem mth_refl (m : Mth) : Mth.eqB m m = true := by
  unfold Mth.eqB
  rw [samB_refl (p := strEq) (fun x => by simp [strEq]), samB_refl (p := Ins.eqB) (fun x => by simp [Ins.eqB]), samB_refl (p := Cat.eqB) (fun x => by simp [Cat.eqB])]
  simp
theorem cls_refl (c : Cls) : Cls.eqB c c = true := by
  unfold Cls.eqB
  rw [samB_refl (p := strEq) (fun x => by simp [strEq]), samB_refl (p := Fld.eqB) (fun x => by simp [Fld.eqB]), samB_refl (p := Mth.eqB) mth_refl]
  simp
end Go.Proofs.YtpincofjopmaaaaGreatDoor
namespace Go.Proofs.YtpincofjopmaaaaGreatDoor
def sigC (c : UInt8) : Bool := decide (c ≠ 44) && decide (c ≠ 41)
theorem okAt_sig (i : Nat) (c : UInt8) (h : okAt i c = true) : sigC c = true := by
  cases hp : sigC c with
  | true => rfl
  | false =>
    exfalso
    unfold sigC at hp
    simp only [Bool.and_eq_false_iff, decide_eq_false_iff_not, Decidable.not_not] at hp
    rcases hp with rfl | rfl <;> (revert h; unfold okAt; cases i <;> simp <;> decide)
theorem name_sig {l : List UInt8} (h : nameB l = true) : ∀ c ∈ l, sigC c = true := by
  intro c hc
  obtain ⟨i, hi, rfl⟩ := List.getElem_of_mem hc
  have q := nameB_ok h i hi
  rw [List.getD_eq_getElem?_getD, List.getElem?_eq_getElem hi] at q
  exact okAt_sig i _ q
theorem base_sig (l : List UInt8) (h : ∀ c ∈ baseL l, sigC c = true) : ∀ c ∈ l, sigC c = true := by
  cases he : endsB l with
  | false =>
    unfold baseL at h
    rw [deepN_not he, Nat.mul_zero, Nat.sub_zero, List.take_of_length_le (Nat.le_refl _)] at h
    exact h
  | true =>
    have h2 := endsB_two he
    have hb : baseL l = baseL (l.take (l.length - 2)) := by
      unfold baseL
      rw [deepN_ends he, List.take_take, List.length_take]
      congr 1
      omega
    have ih := base_sig (l.take (l.length - 2)) (by rw [← hb]; exact h)
    have hd : l.drop (l.length - 2) = [91, 93] := by
      unfold endsB at he
      simp only [Bool.and_eq_true, decide_eq_true_eq] at he
      exact he.2
    intro c hc
    rw [← List.take_append_drop (l.length - 2) l, hd, List.mem_append] at hc
    rcases hc with hc | hc
    · exact ih c hc
    · simp only [List.mem_cons, List.not_mem_nil, or_false] at hc
      rcases hc with rfl | rfl <;> decide
  termination_by l.length
  decreasing_by rw [List.length_take]; omega
theorem right_sig {l : List UInt8} (h : rightB l = true) : l ≠ [] ∧ ∀ c ∈ l, sigC c = true := by
  unfold rightB at h
  simp only [Bool.and_eq_true] at h
  have hn := baseB_name h.2
  refine ⟨?_, base_sig l (name_sig hn)⟩
  rintro rfl
  have := (nameB_pos hn).1
  rw [baseL_length] at this
  simp at this
theorem split_sig : ∀ (x y p q : List UInt8) (a b : UInt8), (∀ c ∈ x, sigC c = true) → (∀ c ∈ y, sigC c = true) → sigC a = false → sigC b = false → x ++ a :: p = y ++ b :: q → x = y ∧ a :: p = b :: q
  | [], [], _, _, _, _, _, _, _, _, h => ⟨rfl, h⟩
  | [], y :: ys, p, q, a, b, _, hy, ha, _, h => by
    rw [List.nil_append, List.cons_append] at h
    injection h with h1 _
    rw [h1, hy y List.mem_cons_self] at ha
    cases ha
  | x :: xs, [], p, q, a, b, hx, _, _, hb, h => by
    rw [List.nil_append, List.cons_append] at h
    injection h with h1 _
    rw [← h1, hx x List.mem_cons_self] at hb
    cases hb
  | x :: xs, y :: ys, p, q, a, b, hx, hy, ha, hb, h => by
    rw [List.cons_append, List.cons_append] at h
    injection h with h1 h2
    obtain ⟨e1, e2⟩ := split_sig xs ys p q a b (fun c hc => hx c (List.mem_cons_of_mem _ hc)) (fun c hc => hy c (List.mem_cons_of_mem _ hc)) ha hb h2
    exact ⟨by rw [h1, e1], e2⟩
theorem sig_head (r : List (List UInt8)) (s : List UInt8) : ∃ a p, Lib.joinTail [44] r ++ 41 :: s = a :: p ∧ sigC a = false := by
  cases r with
  | nil => exact ⟨41, s, rfl, rfl⟩
  | cons x r => exact ⟨44, x ++ Lib.joinTail [44] r ++ 41 :: s, by simp [Lib.joinTail], rfl⟩
theorem sigtail_inj : ∀ (l m : List (List UInt8)) (s t : List UInt8), (∀ x ∈ l, ∀ c ∈ x, sigC c = true) → (∀ x ∈ m, ∀ c ∈ x, sigC c = true) → Lib.joinTail [44] l ++ 41 :: s = Lib.joinTail [44] m ++ 41 :: t → l = m ∧ s = t
  | [], [], _, _, _, _, h => by
    injection h with _ h2
    exact ⟨rfl, h2⟩
  | [], y :: m, s, t, _, _, h => by
    simp only [Lib.joinTail, List.map_nil, List.flatten_nil, List.nil_append, List.map_cons, List.flatten_cons, List.cons_append] at h
    injection h with h1 _
    exact absurd h1 (by decide)
  | x :: l, [], s, t, _, _, h => by
    simp only [Lib.joinTail, List.map_nil, List.flatten_nil, List.nil_append, List.map_cons, List.flatten_cons, List.cons_append] at h
    injection h with h1 _
    exact absurd h1 (by decide)
  | x :: l, y :: m, s, t, hx, hy, h => by
    have h' : x ++ (Lib.joinTail [44] l ++ 41 :: s) = y ++ (Lib.joinTail [44] m ++ 41 :: t) := by
      simp only [Lib.joinTail, List.map_cons, List.flatten_cons, List.cons_append, List.nil_append, List.append_assoc] at h ⊢
      injection h
    obtain ⟨a, p, e1, ha⟩ := sig_head l s
    obtain ⟨b, q, e2, hb⟩ := sig_head m t
    rw [e1, e2] at h'
    obtain ⟨rfl, h2⟩ := split_sig x y p q a b (hx x List.mem_cons_self) (hy y List.mem_cons_self) ha hb h'
    rw [← e1, ← e2] at h2
    obtain ⟨rfl, rfl⟩ := sigtail_inj l m s t (fun z hz => hx z (List.mem_cons_of_mem _ hz)) (fun z hz => hy z (List.mem_cons_of_mem _ hz)) h2
    exact ⟨rfl, rfl⟩
theorem sigjoin_inj (l m : List (List UInt8)) (s t : List UInt8) (hl : ∀ x ∈ l, x ≠ [] ∧ ∀ c ∈ x, sigC c = true) (hm : ∀ x ∈ m, x ≠ [] ∧ ∀ c ∈ x, sigC c = true) (h : Lib.join l [44] ++ 41 :: s = Lib.join m [44] ++ 41 :: t) : l = m ∧ s = t := by
  have no : ∀ (y : List UInt8) (r u v : List UInt8), y ≠ [] → (∀ c ∈ y, sigC c = true) → 41 :: u = y ++ r ++ v → False := by
    intro y r u v hy hc h
    cases y with
    | nil => exact hy rfl
    | cons c ys =>
      rw [List.cons_append, List.cons_append] at h
      injection h with h1 _
      have := hc c List.mem_cons_self
      rw [← h1] at this
      exact absurd this (by decide)
  cases l with
  | nil =>
    cases m with
    | nil =>
      rw [Lib.join_nil] at h
      injection h with _ h2
      exact ⟨rfl, h2⟩
    | cons y m =>
      rw [Lib.join_nil, Lib.join_cons, List.nil_append] at h
      exact (no _ _ _ _ (hm y List.mem_cons_self).1 (hm y List.mem_cons_self).2 h).elim
  | cons x l =>
    cases m with
    | nil =>
      rw [Lib.join_nil, Lib.join_cons, List.nil_append] at h
      exact (no _ _ _ _ (hl x List.mem_cons_self).1 (hl x List.mem_cons_self).2 h.symm).elim
    | cons y m =>
      rw [Lib.join_cons, Lib.join_cons, List.append_assoc, List.append_assoc] at h
      obtain ⟨a, p, e1, ha⟩ := sig_head l s
      obtain ⟨b, q, e2, hb⟩ := sig_head m t
      rw [e1, e2] at h
      obtain ⟨rfl, h2⟩ := split_sig x y p q a b (hl x List.mem_cons_self).2 (hm y List.mem_cons_self).2 ha hb h
      rw [← e1, ← e2] at h2
      obtain ⟨rfl, rfl⟩ := sigtail_inj l m s t (fun z hz => (hl z (List.mem_cons_of_mem _ hz)).2) (fun z hz => (hm z (List.mem_cons_of_mem _ hz)).2) h2
      exact ⟨rfl, rfl⟩
theorem signB_inj (x y : Mth) (hx : x.Good) (hy : y.Good) : signB x = signB y ↔ x.res = y.res ∧ x.params = y.params := by
  constructor
  · intro h
    unfold signB at h
    have h' := List.append_cancel_left h
    obtain ⟨e1, e2⟩ := sigjoin_inj x.params y.params x.res y.res (fun z hz => right_sig (hx.params z hz)) (fun z hz => right_sig (hy.params z hz)) h'
    exact ⟨e2, e1⟩
  · rintro ⟨e1, e2⟩
    unfold signB
    rw [e1, e2]
theorem sig_len (l : List (List UInt8)) (n : Nat) (h : ∀ x ∈ l, x.length ≤ n) : (Lib.joinTail [44] l).length ≤ l.length * (n + 1) := by
  induction l with
  | nil => simp [Lib.joinTail]
  | cons x l ih =>
    have h1 := h x List.mem_cons_self
    have h2 := ih (fun y hy => h y (List.mem_cons_of_mem _ hy))
    have e : Lib.joinTail [44] (x :: l) = 44 :: (x ++ Lib.joinTail [44] l) := by simp [Lib.joinTail]
    rw [e, List.length_cons, List.length_append, List.length_cons, Nat.add_mul]
    omega
theorem Mth.Good.brief {m : Mth} (h : m.Good) : m.brief := by
  have h1 := h.nums.1
  have h2 := h.res_len
  have h3 : ∀ x ∈ m.params, x.length ≤ 38 := fun x hx => right_len (h.params x hx)
  have hj : (Lib.join m.params [44]).length ≤ 2000 := by
    cases hp : m.params with
    | nil => rw [Lib.join_nil]; simp
    | cons x r =>
      rw [hp] at h1 h3
      have a := h3 x List.mem_cons_self
      have b := sig_len r 38 (fun y hy => h3 y (List.mem_cons_of_mem _ hy))
      rw [List.length_cons] at h1
      rw [Lib.join_cons, List.length_append]
      omega
  exact ⟨by omega, by omega, by omega⟩
end Go.Proofs.YtpincofjopmaaaaGreatDoor
