/-
  Slices of elements of several cells, wherever they lie; rows of elements of a call's own.
  Conditions: none; these are definitions and small laws of worlds.
  Maps as functions: what is looked up at each key, which keys are there, and how many.
  Conditions: none; these are laws of worlds.
  Texts, fields and catches in memory; lists searched up to a place.
  Conditions: none; these are definitions and small laws of worlds.
-/
import Derived.Test.YtpincofjopmaaaaGreatDoorM01
import Derived.Deep.MidRow
import Derived.Maps.OwnSet
import Derived.Maps.RangeWalk
namespace Go.Proofs.YtpincofjopmaaaaGreatDoor
open Go.RowKit
/-- What an element is, of a world, its parts in the blocks of A. -/
abbrev ElemRel (α : Type) := (Nat → Prop) → World → α → Value → Prop
/-- What holds of an element stays, while its parts' blocks stay. -/
structure Stays {α : Type} (R : ElemRel α) : Prop where
  keep : ∀ {A S : Nat → Prop} {w w' : World} {x : α} {v : Value}, R A w x v → Only S w w' → (∀ k, A k → ¬ S k) → R A w' x v
  mono : ∀ {A A' : Nat → Prop} {w : World} {x : α} {v : Value}, R A w x v → (∀ k, k < w.heap.size → A k → A' k) → R A' w x v
/-- A block of A that is there; not more than there is room for. -/
def SlotOk (A : Nat → Prop) (w : World) (b n cap : Nat) : Prop := A b ∧ b < w.heap.size ∧ n ≤ cap ∧ cap ≤ 9223372036854775807
/-- A slice of elements of n cells each, in the blocks of A. -/
def Src {α : Type} (n : Nat) (R : ElemRel α) (A : Nat → Prop) (w : World) (sv : Value) (l : List α) : Prop :=
  (∃ ao cap, sv = .slice ao 0 cap ∧ l = []) ∨
  ∃ b o cap, sv = .slice (some ⟨b, o, none⟩) l.length cap ∧ SlotOk A w b l.length cap ∧
    ∀ k x, l[k]? = some x → ∃ v, R A w x v ∧ v.cells.size = n ∧ ∀ j u, v.cells[j]? = some u → w.cell? ⟨b, o + k * n + j, none⟩ = some u
theorem Src.shape {α : Type} {n : Nat} {R : ElemRel α} {A : Nat → Prop} {w : World} {sv : Value} {l : List α} (h : Src n R A w sv l) : ∃ ao cap, sv = .slice ao l.length cap := by
  rcases h with ⟨ao, cap, rfl, rfl⟩ | ⟨b, o, cap, rfl, _⟩
  · exact ⟨ao, cap, rfl⟩
  · exact ⟨_, cap, rfl⟩
theorem Src.nil {α : Type} {n : Nat} {R : ElemRel α} {A : Nat → Prop} {w : World} : Src n R A w (.slice none 0 0) [] := .inl ⟨_, _, rfl, rfl⟩
theorem Stays.src {α : Type} {n : Nat} {R : ElemRel α} (hR : Stays R) : ∀ {A S : Nat → Prop} {w w' : World} {sv : Value} {l : List α}, Src n R A w sv l → Only S w w' → (∀ k, A k → ¬ S k) → Src n R A w' sv l := by
  intro A S w w' sv l h ho hA
  rcases h with h | ⟨b, o, cap, hsv, ⟨hb, hlt, hcap⟩, hc⟩
  · exact .inl h
  · refine .inr ⟨b, o, cap, hsv, ⟨hb, Nat.lt_of_lt_of_le hlt ho.size, hcap⟩, fun k x hx => ?_⟩
    obtain ⟨v, h1, h2, h3⟩ := hc k x hx
    exact ⟨v, hR.keep h1 ho hA, h2, fun j u hj => ho.cell (h3 j u hj) (hA b hb)⟩
theorem Stays.srcMono {α : Type} {n : Nat} {R : ElemRel α} (hR : Stays R) : ∀ {A A' : Nat → Prop} {w : World} {sv : Value} {l : List α}, Src n R A w sv l → (∀ k, k < w.heap.size → A k → A' k) → Src n R A' w sv l := by
  intro A A' w sv l h hA
  rcases h with h | ⟨b, o, cap, hsv, ⟨hb, hlt, hcap⟩, hc⟩
  · exact .inl h
  · refine .inr ⟨b, o, cap, hsv, ⟨hA b hlt hb, hlt, hcap⟩, fun k x hx => ?_⟩
    obtain ⟨v, h1, h2, h3⟩ := hc k x hx
    exact ⟨v, hR.mono h1 hA, h2, h3⟩
theorem Stays.below {α : Type} {n : Nat} {R : ElemRel α} (hR : Stays R) {A : Nat → Prop} {w w' : World} {sv : Value} {l : List α} (h : Src n R A w sv l) (hb : Below w.heap.size w w') : Src n R A w' sv l :=
  hR.src h (Only.ofBelow (S := fun _ => False) hb) (fun _ _ => id)
/-- Any block. -/
abbrev Anyw : Nat → Prop := fun _ => True
theorem Stays.any {α : Type} {n : Nat} {R : ElemRel α} (hR : Stays R) {A : Nat → Prop} {w : World} {sv : Value} {l : List α} (h : Src n R A w sv l) : Src n R Anyw w sv l := hR.srcMono h (fun _ _ _ => trivial)
/-- The elements ahead of the place k. -/
theorem Src.head {α : Type} {n : Nat} {R : ElemRel α} {A : Nat → Prop} {w : World} {b o c : Nat} {l : List α} (hq : SlotOk A w b l.length c)
    (h : ∀ k x, l[k]? = some x → ∃ v, R A w x v ∧ v.cells.size = n ∧ ∀ j u, v.cells[j]? = some u → w.cell? ⟨b, o + k * n + j, none⟩ = some u) (k : Nat) (hk : k ≤ l.length) : Src n R A w (.slice (some ⟨b, o, none⟩) k c) (l.take k) := by
  refine .inr ⟨b, o, c, by rw [List.length_take, Nat.min_eq_left hk], ⟨hq.1, hq.2.1, by rw [List.length_take]; have := hq.2.2.1; omega, hq.2.2.2⟩, fun i x hx => ?_⟩
  refine h i x ?_
  rw [List.getElem?_take] at hx
  split at hx
  · exact hx
  · cases hx
/-- An element of one cell. -/
def Flat {α : Type} (f : α → Value) : ElemRel α := fun _ _ x v => v = f x
theorem Flat.stays {α : Type} (f : α → Value) : Stays (Flat f) := ⟨fun h _ _ => h, fun h _ => h⟩
/-- All cells of values, one behind the other. -/
def cellsL (vs : List Value) : List Value := vs.flatMap fun v => v.cells.toList
theorem cellsL_snoc (vs : List Value) (v : Value) : cellsL (vs ++ [v]) = cellsL vs ++ v.cells.toList := by unfold cellsL; rw [List.flatMap_append]; simp
theorem cellsL_len {n : Nat} : ∀ (vs : List Value), (∀ v ∈ vs, v.cells.size = n) → (cellsL vs).length = vs.length * n
  | [], _ => by simp [cellsL]
  | v :: vs, h => by
    have ih := cellsL_len vs (fun u hu => h u (List.mem_cons_of_mem _ hu))
    have h0 := h v List.mem_cons_self
    unfold cellsL at ih ⊢
    rw [List.flatMap_cons, List.length_append, ih, Array.length_toList, h0, List.length_cons, Nat.succ_mul]
    omega
theorem cellsL_at {n : Nat} : ∀ (vs : List Value) (k j : Nat) (v : Value), (∀ v ∈ vs, v.cells.size = n) → vs[k]? = some v → j < n → (cellsL vs)[k * n + j]? = v.cells[j]?
  | [], k, j, v, _, h, _ => by simp at h
  | x :: vs, 0, j, v, hn, h, hj => by
    have h0 := hn x List.mem_cons_self
    simp at h
    subst h
    unfold cellsL
    rw [List.flatMap_cons, Nat.zero_mul, Nat.zero_add, List.getElem?_append_left (by rw [Array.length_toList]; omega), Array.getElem?_toList]
  | x :: vs, k + 1, j, v, hn, h, hj => by
    have h0 := hn x List.mem_cons_self
    have ih := cellsL_at vs k j v (fun u hu => hn u (List.mem_cons_of_mem _ hu)) (by simpa using h) hj
    unfold cellsL at ih ⊢
    rw [List.flatMap_cons, List.getElem?_append_right (by rw [Array.length_toList, h0, Nat.succ_mul]; omega), Array.length_toList, h0, Nat.succ_mul, show k * n + n + j - n = k * n + j from by omega]
    exact ih
theorem cells_lt {v : Value} {n j : Nat} {u : Value} (hs : v.cells.size = n) (h : v.cells[j]? = some u) : j < n := by
  rcases Nat.lt_or_ge j n with h1 | h1
  · exact h1
  · rw [Array.getElem?_eq_none (by omega)] at h; cases h
/-- A row of elements of a call's own: from block lo on. -/
structure TRow {α : Type} (n : Nat) (t : TypeId) (R : ElemRel α) (lo : Nat) (w : World) (vs : Value) (m : List α) (us : List Value) : Prop where
  row : w.ownsRow 0 t n vs m.length (cellsL us)
  own : ∀ g, vs.ownBlock = some g → lo ≤ g
  len : us.length = m.length
  size : ∀ u ∈ us, u.cells.size = n
  each : ∀ (k : Nat) (x : α), m[k]? = some x → ∃ u : Value, us[k]? = some u ∧ R (fun i : Nat => lo ≤ i ∧ vs.ownBlock ≠ some i) w x u
theorem TRow.nil {α : Type} {n : Nat} {t : TypeId} {R : ElemRel α} (lo : Nat) (w : World) : TRow n t R lo w (.slice none 0 0) [] [] :=
  ⟨World.ownsRow_nil _ _ _ _, fun g hg => by simp [Value.ownBlock] at hg, rfl, fun u hu => by simp at hu, fun k x hx => by simp at hx⟩
theorem TRow.shape {α : Type} {n : Nat} {t : TypeId} {R : ElemRel α} {lo : Nat} {w : World} {vs : Value} {m : List α} {us : List Value} (h : TRow n t R lo w vs m us) : ∃ ao c, vs = .slice ao m.length c := by
  rcases h.row.2 with ⟨rfl, h0⟩ | ⟨g, cap, cur, rfl, _⟩
  · exact ⟨_, _, by rw [h0]⟩
  · exact ⟨_, _, rfl⟩
theorem TRow.lt {α : Type} {n : Nat} {t : TypeId} {R : ElemRel α} {lo : Nat} {w : World} {vs : Value} {m : List α} {us : List Value} (h : TRow n t R lo w vs m us) : ∀ g, vs.ownBlock = some g → g < w.heap.size := by
  intro g hg
  rcases h.row.2 with ⟨rfl, h0⟩ | ⟨g', cap, cur, rfl, _, hgg, _⟩
  · simp [Value.ownBlock] at hg
  · simp [Value.ownBlock] at hg
    subst hg
    exact lt_of_block hgg
theorem TRow.past {α : Type} {n : Nat} {t : TypeId} {R : ElemRel α} (hR : Stays R) {lo : Nat} {w w' : World} {vs : Value} {m : List α} {us : List Value} {S : Nat → Prop} (h : TRow n t R lo w vs m us) (ho : Only S w w') (hS : ∀ k, lo ≤ k → ¬ S k) : TRow n t R lo w' vs m us := by
  refine ⟨ho.row h.row (fun g hg => hS g (h.own g hg)), h.own, h.len, h.size, fun k x hx => ?_⟩
  obtain ⟨u, h1, h2⟩ := h.each k x hx
  exact ⟨u, h1, hR.keep h2 ho (fun i hi => hS i hi.1)⟩
theorem TRow.below {α : Type} {n : Nat} {t : TypeId} {R : ElemRel α} (hR : Stays R) {lo : Nat} {w w' : World} {vs : Value} {m : List α} {us : List Value} (h : TRow n t R lo w vs m us) (hb : Below w.heap.size w w') : TRow n t R lo w' vs m us :=
  h.past hR (Only.ofBelow (S := fun _ => False) hb) (fun _ _ => id)
/-- One more element at the end. -/
theorem TRow.snoc {α : Type} {n : Nat} {t : TypeId} {R : ElemRel α} (hR : Stays R) {lo : Nat} {w w' : World} {vs v' : Value} {m : List α} {us : List Value} {x : α} {u : Value} (h : TRow n t R lo w vs m us) (hg : Grew w vs w' v')
    (hlo : lo ≤ w.heap.size) (hu : u.cells.size = n) (hx : R (fun i => lo ≤ i ∧ vs.ownBlock ≠ some i) w x u) (hown : w'.ownsRow 0 t n v' (m.length + 1) (cellsL us ++ u.cells.toList)) : TRow n t R lo w' v' (m ++ [x]) (us ++ [u]) := by
  have hA : ∀ k, k < w.heap.size → (lo ≤ k ∧ vs.ownBlock ≠ some k) → (lo ≤ k ∧ v'.ownBlock ≠ some k) := fun k hk ⟨h1, h2⟩ => ⟨h1, fun e => h2 (hg.into k hk e)⟩
  have tr : ∀ y q, R (fun i => lo ≤ i ∧ vs.ownBlock ≠ some i) w y q → R (fun i => lo ≤ i ∧ v'.ownBlock ≠ some i) w' y q := fun y q hq => by
    have h1 := hR.mono (A' := fun i => (lo ≤ i ∧ v'.ownBlock ≠ some i) ∧ vs.ownBlock ≠ some i) hq (fun k hk hk2 => ⟨hA k hk hk2, hk2.2⟩)
    have h2 := hR.keep h1 hg.only (fun k hk => hk.2)
    exact hR.mono h2 (fun k _ hk => hk.1)
  refine ⟨by rw [List.length_append, cellsL_snoc]; exact hown, fun g hgo => ?_, by simp [h.len], fun q hq => ?_, fun k y hy => ?_⟩
  · rcases hg.came with e | e
    · exact h.own g (e ▸ hgo)
    · exact Nat.le_trans hlo (e g hgo)
  · rcases List.mem_append.1 hq with hq | hq
    · exact h.size q hq
    · rw [List.mem_singleton.1 hq]; exact hu
  · rcases Nat.lt_or_ge k m.length with hk | hk
    · rw [List.getElem?_append_left hk] at hy
      obtain ⟨q, h1, h2⟩ := h.each k y hy
      exact ⟨q, by rw [List.getElem?_append_left (by rw [h.len]; exact hk)]; exact h1, tr y q h2⟩
    · rw [List.getElem?_append_right hk] at hy
      have hk0 : k - m.length = 0 := by
        rcases Nat.eq_zero_or_pos (k - m.length) with h0 | h0
        · exact h0
        · rw [List.getElem?_eq_none (by simp; omega)] at hy; cases hy
      rw [hk0] at hy
      simp at hy
      subst hy
      exact ⟨u, by rw [List.getElem?_append_right (by rw [h.len]; exact hk), h.len, hk0]; rfl, tr x u hx⟩
/-- Such a row as a slice. -/
theorem TRow.src {α : Type} {n : Nat} {t : TypeId} {R : ElemRel α} (hR : Stays R) {lo : Nat} {w : World} {vs : Value} {m : List α} {us : List Value} (h : TRow n t R lo w vs m us) : Src n R (fun k => lo ≤ k) w vs m := by
  rcases h.row.2 with ⟨rfl, h0⟩ | ⟨g, cap, cur, rfl, _, hgg, hnc, hcm, _⟩
  · exact .inl ⟨_, _, rfl, List.length_eq_zero_iff.1 h0⟩
  · refine .inr ⟨g, 0, cap, rfl, ⟨h.own g rfl, lt_of_block hgg, hnc, hcm⟩, fun k x hx => ?_⟩
    obtain ⟨u, h1, h2⟩ := h.each k x hx
    have hsz := h.size u (List.mem_of_getElem? h1)
    refine ⟨u, hR.mono h2 (fun i _ hi => hi.1), hsz, fun j q hq => ?_⟩
    have hj := cells_lt hsz hq
    have hc := h.row.cells (g := g) rfl (k * n + j) q (by rw [cellsL_at us k j u h.size h1 hj]; exact hq)
    rw [Addr.add_mid] at hc
    rw [Nat.add_assoc]
    exact hc
/-- Where an element's cells lie. -/
theorem Src.cells {α : Type} {n : Nat} {R : ElemRel α} {A : Nat → Prop} {w : World} {b o : Nat} {l : List α} (m : List Value) (hv : ∀ (k : Nat) v, m[k]? = some v → ∃ x, l[k]? = some x ∧ R A w x v ∧ v.cells.size = n ∧ ∀ (j : Nat) u, v.cells[j]? = some u → w.cell? ⟨b, o + k * n + j, none⟩ = some u) (hn : 0 < n) :
    ∀ j u, (cellsL m)[j]? = some u → w.cell? ((⟨b, o, none⟩ : Addr).add j) = some u := by
  intro j u hj
  have hsz : ∀ v ∈ m, v.cells.size = n := fun v hv' => by
    obtain ⟨k, hk, rfl⟩ := List.getElem_of_mem hv'
    obtain ⟨x, _, _, h3, _⟩ := hv k m[k] (List.getElem?_eq_getElem hk)
    exact h3
  have hjl : j < m.length * n := by
    rcases Nat.lt_or_ge j (m.length * n) with h | h
    · exact h
    · rw [List.getElem?_eq_none (by rw [cellsL_len m hsz]; exact h)] at hj; cases hj
  have hk : j / n < m.length := by
    rw [Nat.div_lt_iff_lt_mul hn]; exact hjl
  have hx : m[j / n]? = some m[j / n] := List.getElem?_eq_getElem hk
  obtain ⟨x, _, _, h3, h4⟩ := hv _ _ hx
  have hdm := Nat.div_add_mod j n
  have hml := Nat.mod_lt j hn
  have he : j = j / n * n + j % n := by rw [Nat.mul_comm]; omega
  rw [he, cellsL_at m (j / n) (j % n) _ hsz hx hml] at hj
  have := h4 _ _ hj
  rw [Addr.add_mid, he, ← Nat.add_assoc]
  exact this
/-- The values of a slice's elements. -/
theorem Src.vals {α : Type} {n : Nat} {R : ElemRel α} {A : Nat → Prop} {w : World} {b o : Nat} {l : List α}
    (h : ∀ k x, l[k]? = some x → ∃ v, R A w x v ∧ v.cells.size = n ∧ ∀ j u, v.cells[j]? = some u → w.cell? ⟨b, o + k * n + j, none⟩ = some u) :
    ∃ m : List Value, m.length = l.length ∧ ∀ k v, m[k]? = some v → ∃ x, l[k]? = some x ∧ R A w x v ∧ v.cells.size = n ∧ ∀ j u, v.cells[j]? = some u → w.cell? ⟨b, o + k * n + j, none⟩ = some u := by
  have hex : ∀ k : Fin l.length, ∃ v, R A w l[k] v ∧ v.cells.size = n ∧ ∀ j u, v.cells[j]? = some u → w.cell? ⟨b, o + k.val * n + j, none⟩ = some u := fun k => h k.val l[k] (List.getElem?_eq_getElem k.isLt)
  refine ⟨List.ofFn fun k => Classical.choose (hex k), by simp, fun k v hk => ?_⟩
  have hkl : k < l.length := by
    rcases Nat.lt_or_ge k l.length with h1 | h1
    · exact h1
    · rw [List.getElem?_eq_none (by simpa using h1)] at hk; cases hk
  rw [List.getElem?_ofFn, dif_pos hkl] at hk
  have := Classical.choose_spec (hex ⟨k, hkl⟩)
  rw [Option.some.inj hk] at this
  exact ⟨l[k], List.getElem?_eq_getElem hkl, this.1, this.2.1, this.2.2⟩
end Go.Proofs.YtpincofjopmaaaaGreatDoor
namespace Go.Proofs.YtpincofjopmaaaaGreatDoor
open Go.RowKit Go.MapKept Go.ChangeMaps
/-- A value reads as itself. -/
abbrev RH : Value → Option (DataW Value × List MemPlace) := fun v => some (.held v, [])
/-- Block b is a map of m entries: f is what is looked up (z where nothing is), h which keys are there. -/
def MapF (P : Program) (k : TypeId) (z : Value) (w : World) (b m : Nat) (f : Lit → Value) (h : Lit → Bool) : Prop :=
  ∃ D, w.ownsMap P k RH b m D ∧ Maps.size D = m ∧ (∀ kl, D.atKey kl (.held z) = .held (f kl)) ∧ ∀ kl, Maps.has D kl = h kl
open Classical in
/-- With one key more. -/
noncomputable def updF {α : Type} (f : Lit → α) (k : Lit) (v : α) : Lit → α := fun x => if x = k then v else f x
theorem updF_same {α : Type} (f : Lit → α) (k : Lit) (v : α) : updF f k v k = v := by simp [updF]
theorem updF_other {α : Type} (f : Lit → α) {k x : Lit} (v : α) (h : x ≠ k) : updF f k v x = f x := by simp [updF, h]
section
variable {P : Program} {k : TypeId} {z : Value} {w : World} {b m : Nat} {f : Lit → Value} {h : Lit → Bool}
theorem MapF.lt (q : MapF P k z w b m f h) : b < w.heap.size := let ⟨_, o, _⟩ := q; o.lt
theorem MapF.new (P : Program) (k : TypeId) (z : Value) (w : World) : MapF P k z (w.alloc (.map #[] 0)) w.heap.size 0 (fun _ => z) (fun _ => false) :=
  ⟨.map [], World.ownsMap_made w P k RH, rfl, fun _ => rfl, fun _ => rfl⟩
theorem MapF.keep {S : Nat → Prop} {w' : World} (q : MapF P k z w b m f h) (ho : Only S w w') (hn : ¬ S b) : MapF P k z w' b m f h := by
  obtain ⟨D, ⟨es, clock, hb, F, hs, hD⟩, h1, h2, h3⟩ := q
  exact ⟨D, ⟨es, clock, ho.heap hb hn, F, hs, hD⟩, h1, h2, h3⟩
theorem MapF.look {t e : TypeId} (q : MapF P k z w b m f h) (K : Maps.Keyed P k) (ht : P.underlying t = some (.map k e)) (hz : (zeroValue e).run P w = .ok z w) {key : Value} {kl : Lit} (hkey : keyOf P k key = some kl) :
    (Instr.lookup t (.map (some b)) key false).run P w = .ok (f kl) w := by
  obtain ⟨D, o, _, h2, _⟩ := q
  obtain ⟨v, ps, hr, hv⟩ := o.lookup K ht hz (zd := .held z) (zp := []) rfl hkey
  rw [h2] at hv
  simp only [RH, Option.some.injEq, Prod.mk.injEq, DataW.held.injEq] at hv
  rw [hr, hv.1]
theorem MapF.look_ok {t e : TypeId} (q : MapF P k z w b m f h) (K : Maps.Keyed P k) (ht : P.underlying t = some (.map k e)) (hz : (zeroValue e).run P w = .ok z w) {key : Value} {kl : Lit} (hkey : keyOf P k key = some kl) :
    (Instr.lookup t (.map (some b)) key true).run P w = .ok (.tuple #[f kl, .bool (h kl)]) w := by
  obtain ⟨D, o, _, h2, h3⟩ := q
  obtain ⟨v, ps, hr, hv⟩ := o.look_ok K ht hz (zd := .held z) (zp := []) rfl hkey
  rw [h2] at hv
  simp only [RH, Option.some.injEq, Prod.mk.injEq, DataW.held.injEq] at hv
  rw [hr, hv.1, h3]
theorem MapF.len {t e : TypeId} (q : MapF P k z w b m f h) (ht : P.underlying t = some (.map k e)) (ty : TypeId) : (Builtin.len_ #[t] ty #[.map (some b)]).run P w = .ok (.int .i64 m) w := by
  obtain ⟨D, o, h1, _⟩ := q
  rw [o.len ht ty, h1]
theorem turned_only {w' : World} (ht : w.mapTurned w' b) : Only (fun i => i = b) w w' ∧ w'.heap.size = w.heap.size := by
  have hg := ht.grown
  obtain ⟨es, clock, es', clock', hb, rfl⟩ := ht
  exact ⟨⟨hg.os, hg.tape, hg.output, hg.size, fun i hi hn => hg.block i hi (fun e => hn (Option.some.inj e))⟩, by simp [setBlock]⟩
theorem MapF.store {t e : TypeId} (q : MapF P k z w b m f h) (K : Maps.Keyed P k) (ht : P.underlying t = some (.map k e)) (hm : m < maxLen) {key val : Value} {kl : Lit} (hkey : keyOf P k key = some kl) :
    ∃ w', (Instr.mapUpdate t (.map (some b)) key val).run P w = .ok () w' ∧ MapF P k z w' b (if h kl then m else m + 1) (updF f kl val) (updF h kl true) ∧ Only (fun i => i = b) w w' ∧ w'.heap.size = w.heap.size := by
  obtain ⟨D, o, h1, h2, h3⟩ := q
  obtain ⟨w', hr, o', htn⟩ := o.store K ht hm (d := .held val) (ps := []) hkey rfl
  have hkl := K.key hkey
  obtain ⟨g1, g2⟩ := turned_only htn
  refine ⟨w', hr, ⟨D.put kl (.held val), ?_, ?_, fun x => ?_, fun x => ?_⟩, g1, g2⟩
  · have hs := Maps.size_put (k := kl) (o.tidy K) (.held val : DataW Value)
    rw [h1, h3] at hs
    obtain ⟨es, clock, hb, F, hle, hD⟩ := o'
    refine ⟨es, clock, hb, F, ?_, hD⟩
    have : Maps.size (D.put kl (.held val)) = es.size := by rw [hD]; simp [Maps.size, length_sorted]
    rw [← hs, this]
    exact Nat.le_refl _
  · have hs := Maps.size_put (k := kl) (o.tidy K) (.held val : DataW Value)
    rw [h1, h3] at hs
    exact hs
  · by_cases e : x = kl
    · subst e
      rw [Maps.atKey_put_same o.isMap hkl, updF_same]
    · rw [Maps.atKey_put_other e, updF_other f val e, h2]
  · by_cases e : x = kl
    · subst e
      rw [Maps.has_put_same o.isMap hkl, updF_same]
    · rw [Maps.has_put_other e, updF_other h true e, h3]
open Classical in
/-- The world behind a store into a map. -/
noncomputable def putW (P : Program) (t : TypeId) (m key val : Value) (W : World) : World := if q : ∃ w', (Instr.mapUpdate t m key val).run P W = .ok () w' then q.choose else W
theorem MapF.put {t e : TypeId} (q : MapF P k z w b m f h) (K : Maps.Keyed P k) (ht : P.underlying t = some (.map k e)) (hm : m < maxLen) {key val : Value} {kl : Lit} (hkey : keyOf P k key = some kl) :
    (Instr.mapUpdate t (.map (some b)) key val).run P w = .ok () (putW P t (.map (some b)) key val w) ∧ MapF P k z (putW P t (.map (some b)) key val w) b (if h kl then m else m + 1) (updF f kl val) (updF h kl true) ∧
      Only (fun i => i = b) w (putW P t (.map (some b)) key val w) ∧ (putW P t (.map (some b)) key val w).heap.size = w.heap.size := by
  obtain ⟨w', hr, h1, h2, h3⟩ := q.store K ht hm (val := val) hkey
  have hq : ∃ w', (Instr.mapUpdate t (.map (some b)) key val).run P w = .ok () w' := ⟨w', hr⟩
  have he : putW P t (.map (some b)) key val w = w' := by
    unfold putW
    rw [dif_pos hq]
    have h9 := hr.symm.trans hq.choose_spec
    injection h9 with _ e
    exact e.symm
  rw [he]
  exact ⟨hr, h1, h2, h3⟩
/-- A range over such a map under way: the iterator lies in block r; l says which keys are still to come, c how many. -/
def MapG (P : Program) (k : TypeId) (z : Value) (w : World) (b r m : Nat) (f : Lit → Value) (h : Lit → Bool) (l : Lit → Bool) (c : Nat) : Prop :=
  ∃ D, w.ranges P k RH b r m D l c ∧ (∀ kl, D.atKey kl (.held z) = .held (f kl)) ∧ ∀ kl, Maps.has D kl = h kl
theorem MapF.range {t e : TypeId} (q : MapF P k z w b m f h) (K : Maps.Keyed P k) (ht : P.underlying t = some (.map k e)) :
    ∃ w', (Instr.range t (.map (some b))).run P w = .ok (.pointer (some ⟨w.heap.size, 0, none⟩)) w' ∧ MapG P k z w' b w.heap.size m f h h m ∧ Below w.heap.size w w' ∧ w'.heap.size = w.heap.size + 1 := by
  obtain ⟨D, o, h1, h2, h3⟩ := q
  obtain ⟨w', hr, hg, hgr, hs⟩ := o.range K ht
  have e : Maps.has D = h := funext h3
  rw [e, h1] at hg
  exact ⟨w', hr, ⟨D, hg, h2, h3⟩, ⟨hgr.os, hgr.tape, hgr.output, hgr.size, fun i hi => hgr.block i hi (by simp)⟩, hs⟩
theorem MapG.ne {r : Nat} {l : Lit → Bool} {c : Nat} (q : MapG P k z w b r m f h l c) : r ≠ b := let ⟨_, g, _⟩ := q; g.ne
theorem MapG.lt {r : Nat} {l : Lit → Bool} {c : Nat} (q : MapG P k z w b r m f h l c) : r < w.heap.size := let ⟨_, g, _⟩ := q; g.lt
theorem MapG.left {r : Nat} {l : Lit → Bool} {c : Nat} (q : MapG P k z w b r m f h l c) : w.rangeLeft b r = c := let ⟨_, g, _⟩ := q; g.left_eq
theorem MapG.keep {r : Nat} {l : Lit → Bool} {c : Nat} {S : Nat → Prop} {w' : World} (q : MapG P k z w b r m f h l c) (ho : Only S w w') (hn : ¬ S b) (hr : ¬ S r) : MapG P k z w' b r m f h l c := by
  obtain ⟨D, ⟨es, clock, since, seen, c0, hb, F, hs, hD, hr', rest⟩, h2, h3⟩ := q
  exact ⟨D, ⟨es, clock, since, seen, c0, ho.heap hb hn, F, hs, hD, ho.heap hr' hr, rest⟩, h2, h3⟩
theorem MapG.next {r : Nat} {l : Lit → Bool} {c : Nat} (q : MapG P k z w b r m f h l c) (K : Maps.Keyed P k) (ty : TypeId) :
    (c = 0 ∧ (∀ kl, l kl = false) ∧ (Instr.next (.pointer (some ⟨r, 0, none⟩)) false ty).run P w = .ok (.tuple #[.bool false]) w) ∨
    ∃ key kl w' c', keyOf P k key = some kl ∧ l kl = true ∧ (Instr.next (.pointer (some ⟨r, 0, none⟩)) false ty).run P w = .ok (.tuple #[.bool true, key, f kl]) w' ∧
      MapG P k z w' b r m f h (fun x => l x && !x.sameKey kl) c' ∧ c' < c ∧ Only (fun i => i = r) w w' ∧ w'.heap.size = w.heap.size ∧ (Instr.entry (.pointer (some ⟨r, 0, none⟩))).run P w' = .ok (.tuple #[key, f kl]) w' := by
  obtain ⟨D, g, h2, h3⟩ := q
  rcases g.next K ty with h0 | ⟨key, v, kl, y, w', c', hkey, hl, hv, hat, hrun, hg, hc, hgr, hs, hen⟩
  · exact Or.inl h0
  · have hy : y = (.held v, []) := (Option.some.inj hv).symm
    have hf : v = f kl := by
      have := hat (.held z)
      rw [h2, hy] at this
      simpa using this.symm
    subst hf
    exact Or.inr ⟨key, kl, w', c', hkey, hl, hrun, ⟨D, hg, h2, h3⟩, hc, ⟨hgr.os, hgr.tape, hgr.output, hgr.size, fun i hi hn => hgr.block i hi (fun e => hn (Option.some.inj e))⟩, hs, hen⟩
end
end Go.Proofs.YtpincofjopmaaaaGreatDoor
namespace Go.Proofs.YtpincofjopmaaaaGreatDoor
open Go.RowKit
/-- A field: name, kind, whether it is left out. -/
structure Fld where
  name : List UInt8
  kind : List UInt8
  tr : Bool
/-- A catch: from, to, at, and of which class. -/
structure Cat where
  fr : Int
  till : Int
  at_ : Int
  cls : List UInt8
abbrev strV (x : List UInt8) : Value := .string (S x)
abbrev fldV (f : Fld) : Value := .agg #[.string (S f.name), .string (S f.kind), .bool f.tr]
abbrev catV (c : Cat) : Value := .agg #[.int .i64 c.fr, .int .i64 c.till, .int .i64 c.at_, .string (S c.cls)]
abbrev StrR : ElemRel (List UInt8) := Flat strV
abbrev FldR : ElemRel Fld := Flat fldV
abbrev CatR : ElemRel Cat := Flat catV
theorem StrR.st : Stays StrR := Flat.stays _
theorem FldR.st : Stays FldR := Flat.stays _
theorem CatR.st : Stays CatR := Flat.stays _
theorem take_all_succ {α : Type} (p : α → Bool) (l : List α) (k : Nat) (x : α) (h : l[k]? = some x) : (l.take (k + 1)).all p = ((l.take k).all p && p x) := by
  rw [List.take_add_one, h]
  simp
theorem take_any_succ {α : Type} (p : α → Bool) (l : List α) (k : Nat) (x : α) (h : l[k]? = some x) : (l.take (k + 1)).any p = ((l.take k).any p || p x) := by
  rw [List.take_add_one, h]
  simp
theorem all_not_any {α : Type} (p : α → Bool) (l : List α) : l.all p = !l.any (fun x => !p x) := by
  induction l with
  | nil => rfl
  | cons x l ih => simp [ih]
/-- Is none of these there before? -/
def freshAt (l : List (List UInt8)) (k : Nat) : Bool := !(l.take k).any (fun y => y == l.getD k [])
def distTo (l : List (List UInt8)) (k : Nat) : Bool := (List.range k).all (freshAt l)
def distB (l : List (List UInt8)) : Bool := distTo l l.length
theorem distTo_zero (l : List (List UInt8)) : distTo l 0 = true := by simp [distTo]
theorem distTo_succ (l : List (List UInt8)) (k : Nat) : distTo l (k + 1) = (distTo l k && freshAt l k) := by
  unfold distTo
  rw [List.range_succ, List.all_append]
  simp
theorem distTo_le (l : List (List UInt8)) (k m : Nat) (hkm : k ≤ m) (h : distTo l k = false) : distTo l m = false := by
  unfold distTo at h ⊢
  rw [List.all_eq_false] at h ⊢
  obtain ⟨i, hi, hn⟩ := h
  exact ⟨i, by simp at hi ⊢; omega, hn⟩
/-- A block that is known whole. -/
def Box (w : World) (B : Nat) (cs : Array Value) (t : TypeId) : Prop := w.heap[B]? = some (.cells cs t (0, 0))
theorem Box.new (w : World) (cs : Array Value) (t : TypeId) : Box (w.alloc (.cells cs t)) w.heap.size cs t := heap_alloc_new w _
theorem Box.cell {w : World} {B : Nat} {cs : Array Value} {t : TypeId} (h : Box w B cs t) (j : Nat) {v : Value} (hj : cs[j]? = some v) : w.cell? ⟨B, j, none⟩ = some v := by
  unfold Box at h
  unfold World.cell?
  rw [h]
  exact hj
theorem Box.keep {S : Nat → Prop} {w w' : World} {B : Nat} {cs : Array Value} {t : TypeId} (h : Box w B cs t) (ho : Only S w w') (hn : ¬ S B) : Box w' B cs t := ho.heap h hn
theorem Box.below {w w' : World} {B : Nat} {cs : Array Value} {t : TypeId} (h : Box w B cs t) (hb : Below w.heap.size w w') : Box w' B cs t := h.keep (Only.ofBelow (S := fun _ => False) hb) id
theorem Box.lt {w : World} {B : Nat} {cs : Array Value} {t : TypeId} (h : Box w B cs t) : B < w.heap.size := lt_of_block h
end Go.Proofs.YtpincofjopmaaaaGreatDoor
