/-
  Classes turned: one slice of classes behind another one, in a row of the call's own.
  Conditions: as each text of it says.
-/
import Derived.Test.YtpincofjopmaaaaGreatDoorM17
import Derived.Test.YtpincofjopmaaaaGreatDoorM21
namespace Go.Proofs.YtpincofjopmaaaaGreatDoor
open Go.RowKit
structure CV where
  val : Value
  sz : val.cells.size = 8
  one : ∀ u ∈ val.cells.toList, u.oneCell' = true
abbrev cvV (x : CV) : Value := x.val
abbrev CVR : ElemRel CV := Flat cvV
theorem CVRst : Stays CVR := Flat.stays _
theorem clsR_cv {A : Nat → Prop} {w : World} {c : Cls} {v : Value} (h : ClsR A w c v) : v.cells.size = 8 ∧ ∀ u ∈ v.cells.toList, u.oneCell' = true := by
  obtain ⟨_, _, _, rfl, ⟨lo, lc, rfl⟩, ⟨fo, fc, rfl⟩, ⟨mo, mc, rfl⟩⟩ := cls_shape h
  refine ⟨rfl, fun u hu => ?_⟩
  simp [Value.cells] at hu
  rcases hu with rfl | rfl | rfl | rfl | rfl | rfl | rfl | rfl <;> rfl
structure Vals (A : Nat → Prop) (w : World) (cs : List Cls) (vs : List CV) : Prop where
  len : vs.length = cs.length
  each : ∀ (k : Nat) (c : Cls), cs[k]? = some c → ∃ u : CV, vs[k]? = some u ∧ ClsR A w c (cvV u)
theorem src_vals {A : Nat → Prop} {w : World} {sv : Value} {cs : List Cls} (h : Src 8 ClsR A w sv cs) : ∃ vs, Vals A w cs vs ∧ Src 8 CVR A w sv vs := by
  rcases h with ⟨ao, cap, rfl, rfl⟩ | ⟨b, o, cap, rfl, hk, hc⟩
  · exact ⟨[], ⟨rfl, fun k c h => (by simp at h)⟩, .inl ⟨_, _, rfl, rfl⟩⟩
  · have key : ∀ (l : List Cls) (d : Nat), (∀ (k : Nat) (x : Cls), l[k]? = some x → ∃ v, ClsR A w x v ∧ v.cells.size = 8 ∧ ∀ j u, v.cells[j]? = some u → w.cell? ⟨b, d + k * 8 + j, none⟩ = some u) →
        ∃ vs : List CV, Vals A w l vs ∧ ∀ (k : Nat) (x : CV), vs[k]? = some x → ∃ v, CVR A w x v ∧ v.cells.size = 8 ∧ ∀ j u, v.cells[j]? = some u → w.cell? ⟨b, d + k * 8 + j, none⟩ = some u := by
      intro l
      induction l with
      | nil => intro d _; exact ⟨[], ⟨rfl, fun k c h => (by simp at h)⟩, fun k x h => (by simp at h)⟩
      | cons c l ih =>
        intro d h
        obtain ⟨v, h1, h2, h3⟩ := h 0 c rfl
        obtain ⟨vs, hv, hq⟩ := ih (d + 8) (fun k x hx => by
          obtain ⟨v, q1, q2, q3⟩ := h (k + 1) x (by simpa using hx)
          exact ⟨v, q1, q2, fun j u hj => by have := q3 j u hj; rw [show d + 8 + k * 8 + j = d + (k + 1) * 8 + j by omega]; exact this⟩)
        refine ⟨(⟨v, (clsR_cv h1).1, (clsR_cv h1).2⟩ : CV) :: vs, ⟨by rw [List.length_cons, List.length_cons, hv.len], fun k x hx => ?_⟩, fun k x hx => ?_⟩
        · cases k with
          | zero => obtain rfl := Option.some.inj hx; exact ⟨_, rfl, h1⟩
          | succ k => obtain ⟨u, q1, q2⟩ := hv.each k x (by simpa using hx); exact ⟨u, by simpa using q1, q2⟩
        · cases k with
          | zero => obtain rfl := Option.some.inj hx; exact ⟨v, rfl, h2, h3⟩
          | succ k =>
            obtain ⟨v2, q1, q2, q3⟩ := hq k x (by simpa using hx)
            exact ⟨v2, q1, q2, fun j u hj => by have := q3 j u hj; rw [show d + (k + 1) * 8 + j = d + 8 + k * 8 + j by omega]; exact this⟩
    obtain ⟨vs, hv, hq⟩ := key cs o hc
    exact ⟨vs, hv, .inr ⟨b, o, cap, by rw [hv.len], by rw [hv.len]; exact hk, hq⟩⟩
theorem vals_src {A A' : Nat → Prop} {w : World} {sv : Value} {cs : List Cls} {vs : List CV} (hv : Vals A w cs vs) (h : Src 8 CVR A' w sv vs) : Src 8 ClsR Anyw w sv cs := by
  rcases h with ⟨ao, cap, rfl, hn⟩ | ⟨b, o, cap, rfl, hk, hc⟩
  · have : cs = [] := List.length_eq_zero_iff.1 (by rw [← hv.len, hn]; rfl)
    exact .inl ⟨_, _, rfl, this⟩
  · rw [hv.len] at hk ⊢
    refine .inr ⟨b, o, cap, rfl, ⟨trivial, hk.2⟩, fun k x hx => ?_⟩
    obtain ⟨u, q1, q2⟩ := hv.each k x hx
    obtain ⟨v, rfl, h2, h3⟩ := hc k u q1
    exact ⟨_, ClsR.st.mono q2 (fun _ _ _ => trivial), h2, h3⟩
theorem Vals.keep {A : Nat → Prop} {w w' : World} {cs : List Cls} {vs : List CV} (hv : Vals A w cs vs) (hb : Below w.heap.size w w') : Vals A w' cs vs :=
  ⟨hv.len, fun k c hc => by obtain ⟨u, q1, q2⟩ := hv.each k c hc; exact ⟨u, q1, ClsR.st.keep q2 (Only.ofBelow (S := fun _ => False) hb) (fun _ _ => id)⟩⟩
theorem Vals.turn {A : Nat → Prop} {w : World} {cs : List Cls} {vs : List CV} (hv : Vals A w cs vs) (k : Nat) : Vals A w (cs.drop k ++ cs.take k) (vs.drop k ++ vs.take k) := by
  have hl := hv.len
  refine ⟨by simp [hl], fun i c hc => ?_⟩
  rw [List.getElem?_append] at hc ⊢
  rw [List.length_drop] at hc ⊢
  rw [hl]
  split at hc
  · rename_i hi
    rw [if_pos hi]
    rw [List.getElem?_drop] at hc ⊢
    exact hv.each _ c hc
  · rename_i hi
    rw [if_neg hi]
    rw [List.getElem?_take] at hc ⊢
    split at hc
    · rename_i hj; rw [if_pos hj]; exact hv.each _ c hc
    · cases hc
abbrev TurnT (lo : Nat) (W : World) (v : Value) (l : List CV) : Prop := TRow 8 26 CVR lo W v l (l.map cvV)
theorem turn_empty (lo : Nat) (W : World) (h : lo ≤ W.heap.size) : TurnT lo (W.alloc (.cells #[] 26)) (.slice (some ⟨W.heap.size, 0, none⟩) 0 0) [] :=
  ⟨⟨rfl, .inr ⟨W.heap.size, 0, #[], rfl, Nat.zero_le _, heap_alloc_new W _, Nat.le_refl _, Nat.zero_le _, rfl, rfl⟩⟩, fun g hg => by simp [Value.ownBlock] at hg; omega, rfl, fun u hu => by simp at hu, fun k x hx => by simp at hx⟩
theorem turn_append {A : Nat → Prop} (lo : Nat) (W : World) (v sv : Value) (ty : TypeId) (l1 l2 : List CV) (h1 : TurnT lo W v l1) (hlo : lo ≤ W.heap.size) (h2 : Src 8 CVR A W sv l2) (hl : l1.length + l2.length ≤ 1048576) :
    ∃ v' w', (Builtin.append_ #[37, 37] ty #[v, sv]).run Tryz.prog W = .ok v' w' ∧ TurnT lo w' v' (l1 ++ l2) ∧ Below lo W w' := by
  obtain ⟨j0, hji, hz0, hz1, hz2⟩ := info_parts info_cls
  obtain ⟨v', w', hr, q1, q2⟩ := flat_append (f := cvV) (n := 8) (by decide) (fun x => x.sz) (fun x => x.one) 37 ty 26 j0 _ 112 Tryz.underlying37 hji hz0 hz1 hz2 rfl h1 hlo h2 (by omega) (by omega)
  exact ⟨v', w', hr, q1, q2.only.below hlo (fun g hg => h1.own g hg)⟩
theorem cv_tail {A : Nat → Prop} {w : World} {b o n cap k : Nat} {l : List CV} (h : Src 8 CVR A w (.slice (some ⟨b, o, none⟩) n cap) l) (hn : n = l.length) (hk : k < n) : Src 8 CVR A w (.slice (some ⟨b, o + k * 8, none⟩) (n - k) (cap - k)) (l.drop k) := by
  rcases h with ⟨ao, c, he, rfl⟩ | ⟨b', o', c, he, hs, hc⟩
  · simp at hn; omega
  · injection he with e1 e2 e3
    injection e1 with e1
    injection e1 with e4 e5
    subst e3 e4 e5
    refine .inr ⟨b, o + k * 8, cap - k, by rw [List.length_drop, ← hn], ⟨hs.1, hs.2.1, by rw [List.length_drop]; have := hs.2.2.1; omega, by have := hs.2.2.2; omega⟩, fun i x hx => ?_⟩
    rw [List.getElem?_drop] at hx
    obtain ⟨v, q1, q2, q3⟩ := hc (k + i) x hx
    exact ⟨v, q1, q2, fun j u hj => by have := q3 j u hj; rw [show o + k * 8 + i * 8 + j = o + (k + i) * 8 + j by omega]; exact this⟩
theorem cv_head {A : Nat → Prop} {w : World} {b o n cap k : Nat} {l : List CV} (h : Src 8 CVR A w (.slice (some ⟨b, o, none⟩) n cap) l) (hn : n = l.length) (hk : k < n) : Src 8 CVR A w (.slice (some ⟨b, o, none⟩) k cap) (l.take k) := by
  rcases h with ⟨ao, c, he, rfl⟩ | ⟨b', o', c, he, hs, hc⟩
  · simp at hn; omega
  · injection he with e1 e2 e3
    injection e1 with e1
    injection e1 with e4 e5
    subst e3 e4 e5
    exact Src.head hs hc k (by omega)
end Go.Proofs.YtpincofjopmaaaaGreatDoor
